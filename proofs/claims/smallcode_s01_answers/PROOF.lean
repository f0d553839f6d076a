import PyProof.Rows.All
import Wide.All
import OpenK.AllK
import Wide.FinOn
import PyProof.EqAt
import PyProof.EqKinds
import PyProof.TupleCall
import KE.BitLaws
import Open.SpecLaws
import KE.OsHead
import KE.OsGo
import PySem.Challenge.RW_smallcode_s01_answers
set_option Elab.async false
set_option linter.all false
set_option maxRecDepth 100000
section
/-! THE HAND LAYER, for ints, bools, texts, own classes, lists, tuples, dicts, comprehensions, walks over dicts, enumerate, zip, reversed, texts, calls, loops. Paste it whole ahead of your own text; what your proof does not reach may be deleted. -/
namespace L2
open PySem PySem.Spec PyProof.Rows
/-- a key: an int or a str -/
abbrev Key := Sum Int Str
def keyIs : Key → Value → Bool
  | .inl k, v => Value.isInt k v
  | .inr x, v => Value.isStrOf x v
def keyH (w : World) : Key → Int
  | .inl k => hashInt k
  | .inr x => hashStr w x
theorem keyIs_shape : ∀ {k : Key} {v : Value}, keyIs k v = true → (∃ i t, k = Sum.inl i ∧ v = Value.int i t) ∨ (∃ x t, k = Sum.inr x ∧ v = Value.str x t)
  | .inl i, v, h => by
    obtain ⟨t, e⟩ := Value.isInt_shape (k := i) (v := v) h
    exact .inl ⟨i, t, rfl, e⟩
  | .inr x, v, h => by
    obtain ⟨t, e⟩ := Value.isStrOf_shape (x := x) (v := v) h
    exact .inr ⟨x, t, rfl, e⟩
theorem keyIs_int (i : Int) (t : Tok) : keyIs (.inl i) (.int i t) = true := by simp [keyIs, Value.isInt]
theorem keyIs_str (x : Str) (t : Tok) : keyIs (.inr x) (.str x t) = true := by simp [keyIs, Value.isStrOf]
theorem key_ll (a b : Int) : decide ((Sum.inl a : Key) = Sum.inl b) = (a == b) := by
  by_cases e : a = b
  · subst e; simp
  · have h : ¬ (Sum.inl a : Key) = Sum.inl b := fun q => e (Sum.inl.inj q)
    rw [decide_eq_false h]
    exact (beq_eq_false_iff_ne.mpr e).symm
theorem key_rr (a b : Str) : decide ((Sum.inr a : Key) = Sum.inr b) = decide (a = b) := by
  by_cases e : a = b
  · subst e; simp
  · have h : ¬ (Sum.inr a : Key) = Sum.inr b := fun q => e (Sum.inr.inj q)
    rw [decide_eq_false h, decide_eq_false e]
theorem key_lr (a : Int) (b : Str) : decide ((Sum.inl a : Key) = Sum.inr b) = false := decide_eq_false (fun q => nomatch q)
theorem key_rl (a : Str) (b : Int) : decide ((Sum.inr a : Key) = Sum.inl b) = false := decide_eq_false (fun q => nomatch q)
def mixKind (prog : Program) (w : World) : PySem.KeyKind prog w Key where
  is := keyIs
  hash := keyH w
  inj := fun v a b ha hb => by
    rcases keyIs_shape ha with ⟨i, t, rfl, rfl⟩ | ⟨x, t, rfl, rfl⟩
    · rcases keyIs_shape hb with ⟨j, u, rfl, e⟩ | ⟨y, u, rfl, e⟩
      · injection e with e1 _; rw [e1]
      · exact nomatch e
    · rcases keyIs_shape hb with ⟨j, u, rfl, e⟩ | ⟨y, u, rfl, e⟩
      · exact nomatch e
      · injection e with e1 _; rw [e1]
  byValue := fun k v h => by
    rcases keyIs_shape h with ⟨i, t, rfl, rfl⟩ | ⟨x, t, rfl, rfl⟩ <;> rfl
  pyHash := fun hv h => by
    rcases keyIs_shape hv with ⟨i, t, rfl, rfl⟩ | ⟨x, t, rfl, rfl⟩
    · exact wpAny_pyHash_int h
    · exact wpAny_pyHash_str h
  eqBool := fun hu hv h => by
    rcases keyIs_shape hu with ⟨i, t, rfl, rfl⟩ | ⟨x, t, rfl, rfl⟩
    · rcases keyIs_shape hv with ⟨j, u, rfl, rfl⟩ | ⟨y, u, rfl, rfl⟩
      · rw [key_ll] at h; exact wpAny_eqBool_int h
      · rw [key_lr] at h; exact SeqAt.EqAt.int_str i t y u _ _ _ _ h
    · rcases keyIs_shape hv with ⟨j, u, rfl, rfl⟩ | ⟨y, u, rfl, rfl⟩
      · rw [key_rl] at h; exact SeqAt.EqAt.str_int x t j u _ _ _ _ h
      · rw [key_rr] at h; exact wpAny_eqBool_str h
  «strs» := fun k x t v h => by
    rcases keyIs_shape h with ⟨i, u, rfl, e⟩ | ⟨y, u, rfl, e⟩
    · exact nomatch e
    · injection e with e1 _
      subst e1
      cases v <;> rfl
theorem mixKind_int (prog : Program) (w : World) (i : Int) (t : Tok) : (mixKind prog w).is (.inl i) (.int i t) = true := keyIs_int i t
theorem mixKind_str (prog : Program) (w : World) (x : Str) (t : Tok) : (mixKind prog w).is (.inr x) (.str x t) = true := keyIs_str x t
end L2
namespace L2
open PySem PySem.Spec PyProof.Rows
/-- a value, without the heap -/
inductive V where
  | non | bl (b : Bool) | int (i : Int) | str (x : Str) | byt (b : Array UInt8) | flt (b : UInt64) | ref (a : Addr) | ty (n : String)
  deriving DecidableEq
def RelV : V → Value → Prop
  | .non, u => u = Value.none
  | .bl b, u => u = Value.bool b
  | .int i, u => ∃ t, u = Value.int i t
  | .str x, u => ∃ t, u = Value.str x t
  | .byt b, u => ∃ t, u = Value.bytes b t
  | .flt b, u => ∃ t, u = Value.float b t
  | .ref a, u => u = Value.ref a
  | .ty n, u => u = Value.type n
abbrev Vals : List V → List Value → Prop := Paired RelV
theorem Vals.length {xs : List V} {us : List Value} (r : Vals xs us) : xs.length = us.length := Paired.length r
theorem Vals.get : ∀ {xs : List V} {us : List Value} {i : Nat} {x : V}, Vals xs us → xs[i]? = some x → ∃ u, us[i]? = some u ∧ RelV x u
  | _, _, _, _, .nil, e => by simp at e
  | _, _, 0, _, .cons r _, e => by simp at e; subst e; exact ⟨_, rfl, r⟩
  | _, _, i + 1, x, .cons _ t, e => by
    obtain ⟨u, h1, h2⟩ := Vals.get (i := i) (x := x) t (by simpa using e)
    exact ⟨u, by simpa using h1, h2⟩
theorem Vals.set {x : V} {u : Value} (r : RelV x u) : ∀ {xs : List V} {us : List Value} (i : Nat), Vals xs us → Vals (xs.set i x) (us.set i u)
  | _, _, _, .nil => .nil
  | _, _, 0, .cons _ t => .cons r t
  | _, _, i + 1, .cons q t => .cons q (Vals.set r i t)
theorem Vals.append : ∀ {xs ys : List V} {us ws : List Value}, Vals xs us → Vals ys ws → Vals (xs ++ ys) (us ++ ws)
  | _, _, _, _, .nil, s => s
  | _, _, _, _, .cons r t, s => .cons r (Vals.append t s)
theorem Vals.take : ∀ {xs : List V} {us : List Value} (n : Nat), Vals xs us → Vals (xs.take n) (us.take n)
  | _, _, 0, _ => .nil
  | _, _, _ + 1, .nil => .nil
  | _, _, n + 1, .cons r t => .cons r (Vals.take n t)
theorem Vals.drop : ∀ {xs : List V} {us : List Value} (n : Nat), Vals xs us → Vals (xs.drop n) (us.drop n)
  | _, _, 0, r => r
  | _, _, _ + 1, .nil => .nil
  | _, _, n + 1, .cons _ t => Vals.drop n t
def RelO : Option V → Option Value → Prop
  | some v, some u => RelV v u
  | none, none => True
  | _, _ => False
def KV {κ : Type} : List (κ × V) → List (κ × Value) → Prop := Paired fun (p : κ × V) (q : κ × Value) => p.1 = q.1 ∧ RelV p.2 q.2
/-- a key of a dict (00_mix): an int or a text -/
def kV : Key → V
  | .inl i => .int i
  | .inr x => .str x
/-- what stands at a tracked address -/
inductive HO where
  /-- a list -/
  | lst (xs : List V)
  /-- a tuple (never changes) -/
  | tup (xs : List V)
  /-- a dict whose keys are ints and texts; one whose keys are tuples of ints and texts (the empty one is both) -/
  | dK (kvs : List (Key × V)) | dT (kvs : List (List Key × V))
  /-- a set of ints: its members, its size -/
  | set (S : Int → Bool) (n : Nat)
  /-- an instance of the class at C, its dict at dx, its attributes -/
  | ins (C dx : Addr) (fs : List (Str × V))
  /-- the dict of the instance at x -/
  | own (x : Addr)
  /-- the dict of an exception -/
  | xd (fs : List (Str × V))
  /-- a bound method, f of x -/
  | met (f x : Addr)
  /-- a range object lo, lo + 1, .. below hi -/
  | rng (lo hi : Int)
  /-- a thing that is known to the object (the script; a dict while a loop walks it): read, never written while it is so -/
  | frz (o : Obj) (u : HO)
  /-- a code object's table -/
  | tbl (ps : Array Value)
  /-- any other thing, by what is true of its one object (a def of one's own: SetO a S n := HO.ext fun h => ..) -/
  | ext (φ : Heap → Prop)
abbrev Hp := Addr → Option HO
def upd (H : Hp) (a : Addr) (o : HO) : Hp := fun b => if b = a then some o else H b
theorem upd_same {H : Hp} {a : Addr} {o : HO} : upd H a o a = some o := by unfold upd; rw [if_pos rfl]
theorem upd_ne {H : Hp} {a b : Addr} {o : HO} (h : b ≠ a) : upd H a o b = H b := by unfold upd; rw [if_neg h]
/-- two objects of different content stand apart -/
theorem ne_of {H : Hp} {a b : Addr} {o u : HO} (h : H a = some o) (h' : H b = some u) (d : o ≠ u) : a ≠ b := by
  intro e; subst e; rw [h] at h'; exact d (Option.some.inj h')
theorem ne_of_none {H : Hp} {a b : Addr} {o : HO} (h : H a = some o) (h' : H b = none) : a ≠ b := by
  intro e; subst e; rw [h] at h'; cases h'
section
variable (P : Program) (w : World)
def ObjOk (H : Hp) (h : Heap) (a : Addr) : HO → Prop
  | .lst xs => xs.length ≤ sizeLine ∧ ∃ (its : List Value) (n : Nat), Vals xs its ∧ h.get? a = some { cls := .type "list", data := .seq its.toArray n }
  | .tup xs => xs.length ≤ sizeLine ∧ ∃ its : List Value, Vals xs its ∧ IsTup h a its.toArray
  | .dK kvs => kvs.length ≤ sizeLine ∧ (a == sysModules) = false ∧ ∃ vs, KV kvs vs ∧ h.DictOf (mixKind P w) a vs
  | .dT kvs => kvs.length ≤ sizeLine ∧ (a == sysModules) = false ∧ ∃ xs : List (List Key × Addr × Value),
      Paired (fun (p : List Key × V) (q : List Key × Addr × Value) => p.1 = q.1 ∧ H q.2.1 = some (.tup (p.1.map kV)) ∧ RelV p.2 q.2.2) kvs xs ∧
      ∃ o es ep, h.get? a = some o ∧ o.ExactDict ∧ o.data = .dict es ep ∧ es.toList = xs.map (entryOfKey (tupleKind (mixKind P w))) ∧ (xs.map (·.1)).Nodup
  | .set S n => h.SetOf (intKind P w) a S n
  | .ins C dx fs => H dx = some (.own a) ∧ fs.length ≤ 1000 ∧ dx ≠ a ∧ h.get? a = some (PySem.W.instObj C dx) ∧
      ∃ mA, h.Ns1 dx mA ∧ (∀ f, RelO (fs.lookup f) (mA f)) ∧ PySem.Within mA (fs.map (·.1))
  | .own _ => ∃ o, h.get? a = some o
  | .xd fs => ∃ mA, h.Ns1 a mA ∧ ∀ f, RelO (fs.lookup f) (mA f)
  | .rng lo hi => ∃ t u v, h.get? a = some { cls := .type "range", data := .fields #[.int lo t, .int hi u, .int 1 v] }
  | .frz o u => h.get? a = some o ∧ ObjOk H h a u
  | .tbl ps => h.get? a = some { cls := .none, data := .fields ps }
  | .met f x => h.get? a = some (PySem.W.methodObj (.ref f) (.ref x))
  | .ext φ => φ h ∧ (∃ o, h.get? a = some o) ∧ ∀ h1 h2 : Heap, φ h1 → (∀ o, h1.get? a = some o → h2.get? a = some o) → φ h2
/-- the abstract heap is held -/
def HOk (H : Hp) (h : Heap) : Prop := ∀ a o, H a = some o → ObjOk P w H h a o
end
section
variable {P : Program} {w : World} {H H' : Hp} {h h' : Heap} {a : Addr} {o : HO}
theorem ObjOk.lt (x : ObjOk P w H h a o) : a < h.objs.size := by
  cases o with
  | lst xs => obtain ⟨_, _, _, _, e⟩ := x; exact Heap.lt_size e
  | tup xs => obtain ⟨_, _, _, p⟩ := x; exact p.lt
  | dK kvs => obtain ⟨_, _, _, _, o, _, _, e, _⟩ := x; exact Heap.lt_size e
  | dT kvs => obtain ⟨_, _, _, _, o, _, _, e, _⟩ := x; exact Heap.lt_size e
  | set S n => obtain ⟨o, _, _, _, e, _⟩ := x; exact Heap.lt_size e
  | ins C dx fs => obtain ⟨_, _, _, e, _⟩ := x; exact Heap.lt_size e
  | own y => obtain ⟨_, e⟩ := x; exact Heap.lt_size e
  | xd fs => obtain ⟨_, ⟨_, _, _, e, _⟩, _⟩ := x; exact Heap.lt_size e
  | rng lo hi => obtain ⟨_, _, _, e⟩ := x; exact Heap.lt_size e
  | frz ob u => obtain ⟨e, _⟩ := x; exact Heap.lt_size e
  | tbl ps => exact Heap.lt_size (show h.get? a = some _ from x)
  | met f y => exact Heap.lt_size (show h.get? a = some _ from x)
  | ext φ => obtain ⟨_, ⟨_, e⟩, _⟩ := x; exact Heap.lt_size e
theorem Paired.mapP {α β : Type} {F G : α → β → Prop} : ∀ {l₁ : List α} {l₂ : List β}, Paired F l₁ l₂ → (∀ a b, F a b → G a b) → Paired G l₁ l₂
  | _, _, .nil, _ => .nil
  | _, _, .cons r t, f => .cons (f _ _ r) (Paired.mapP t f)
/-- what an object's description leans on: its own object, its own dict, the tuples -/
theorem ObjOk.stay (x : ObjOk P w H h a o) (k : ∀ b u, (b = a ∨ H b = some (.own a)) → h.get? b = some u → h'.get? b = some u)
    (ho : ∀ b, H b = some (.own a) → H' b = some (.own a)) (ht : ∀ b xs, H b = some (.tup xs) → H' b = some (.tup xs)) : ObjOk P w H' h' a o := by
  induction o with
  | lst xs => obtain ⟨z, its, n, r, e⟩ := x; exact ⟨z, its, n, r, k _ _ (.inl rfl) e⟩
  | tup xs => obtain ⟨z, its, r, ob, e, c⟩ := x; exact ⟨z, its, r, ob, k _ _ (.inl rfl) e, c⟩
  | dK kvs => obtain ⟨z, y, vs, r, ob, es, ep, e, c⟩ := x; exact ⟨z, y, vs, r, ob, es, ep, k _ _ (.inl rfl) e, c⟩
  | dT kvs =>
    obtain ⟨z, y, xs, r, ob, es, ep, e, c⟩ := x
    exact ⟨z, y, xs, Paired.mapP r fun p q z => ⟨z.1, ht _ _ z.2.1, z.2.2⟩, ob, es, ep, k _ _ (.inl rfl) e, c⟩
  | set S n => obtain ⟨ob, es, ep, t, e, c⟩ := x; exact ⟨ob, es, ep, t, k _ _ (.inl rfl) e, c⟩
  | ins C dx fs =>
    obtain ⟨d, z, ne, e, mA, ⟨od, es, ep, e2, c⟩, r⟩ := x
    exact ⟨ho _ d, z, ne, k _ _ (.inl rfl) e, mA, ⟨od, es, ep, k _ _ (.inr d) e2, c⟩, r⟩
  | own y => obtain ⟨ob, e⟩ := x; exact ⟨ob, k _ _ (.inl rfl) e⟩
  | xd fs => obtain ⟨mA, ⟨od, es, ep, e, c⟩, r⟩ := x; exact ⟨mA, ⟨od, es, ep, k _ _ (.inl rfl) e, c⟩, r⟩
  | rng lo hi => obtain ⟨t, u, v, e⟩ := x; exact ⟨t, u, v, k _ _ (.inl rfl) e⟩
  | frz ob u ih => obtain ⟨e, q⟩ := x; exact ⟨k _ _ (.inl rfl) e, ih q⟩
  | tbl ps =>
    have e : h.get? a = some { cls := .none, data := .fields ps } := x
    show h'.get? a = some { cls := .none, data := .fields ps }
    exact k a _ (.inl rfl) e
  | met f y =>
    have e : h.get? a = some (PySem.W.methodObj (.ref f) (.ref y)) := x
    show h'.get? a = some (PySem.W.methodObj (.ref f) (.ref y))
    exact k a _ (.inl rfl) e
  | ext φ => obtain ⟨p, ⟨o, e⟩, st⟩ := x; exact ⟨st _ _ p fun o q => k _ _ (.inl rfl) q, ⟨o, k _ _ (.inl rfl) e⟩, st⟩
theorem HOk.lt (x : HOk P w H h) (e : H a = some o) : a < h.objs.size := (x a o e).lt
theorem HOk.fresh (x : HOk P w H h) (e : h.objs.size ≤ a) : H a = none := by
  cases q : H a with
  | none => rfl
  | some u => exact absurd (Nat.lt_of_lt_of_le (x.lt q) e) (Nat.lt_irrefl _)
/-- every object of the heap is kept -/
theorem HOk.kept (x : HOk P w H h) (k : ∀ b u, h.get? b = some u → h'.get? b = some u) : HOk P w H h' := fun a o e =>
  (x a o e).stay (fun b u _ q => k b u q) (fun _ q => q) fun _ _ q => q
/-- a new object is laid and tracked -/
theorem HOk.laid (x : HOk P w H h) (k : ∀ b u, h.get? b = some u → h'.get? b = some u) (hp : h.objs.size ≤ a) (new : ObjOk P w (upd H a o) h' a o) : HOk P w (upd H a o) h' := fun b u e => by
  have hn := x.fresh hp
  by_cases hb : b = a
  · subst hb; rw [upd_same] at e; cases e; exact new
  · rw [upd_ne hb] at e
    exact (x b u e).stay (fun c v _ q => k c v q) (fun c q => by rw [upd_ne (ne_of_none q hn)]; exact q) fun c xs q => by rw [upd_ne (ne_of_none q hn)]; exact q
end
/-- what may be read as u: it is u, or a known u -/
def Rd (H : Hp) (a : Addr) (u : HO) : Prop := H a = some u ∨ ∃ o, H a = some (.frz o u)
theorem Rd.ok {P : Program} {w : World} {H : Hp} {h : Heap} {a : Addr} {u : HO} (r : Rd H a u) (x : HOk P w H h) : ObjOk P w H h a u := by
  rcases r with r | ⟨o, r⟩
  · exact x a u r
  · obtain ⟨_, q⟩ := x a _ r
    exact q
/-- what may be written -/
def Mut : Option HO → Prop
  | some (.lst _) => True
  | some (.dK _) => True
  | some (.dT _) => True
  | some (.set _ _) => True
  | some (.ins _ _ _) => True
  | some (.ext _) => True
  | _ => False
section
variable {P : Program} {w : World} {H : Hp} {h h' : Heap} {x e : Addr} {o' : HO}
/-- the object at e is changed: x itself, or the dict of the instance x -/
theorem HOk.write (ok : HOk P w H h) (mu : Mut (H x)) (he : e = x ∨ H e = some (.own x)) (k : ∀ b u, b ≠ e → h.get? b = some u → h'.get? b = some u) (heo : ∃ u, h'.get? e = some u)
    (new : ObjOk P w (upd H x o') h' x o') : HOk P w (upd H x o') h' := fun b u q => by
  have nown : ∀ c y, H c = some (.own y) → c ≠ x := fun c y r z => by subst z; rw [r] at mu; exact mu
  have ntup : ∀ c xs, H c = some (.tup xs) → c ≠ x := fun c xs r z => by subst z; rw [r] at mu; exact mu
  by_cases hb : b = x
  · subst hb; rw [upd_same] at q; cases q; exact new
  · rw [upd_ne hb] at q
    by_cases hbe : b = e
    · have q' : H b = some (.own x) := by
        rcases he with z | z
        · exact absurd (hbe.trans z) hb
        · rw [hbe]; exact z
      rw [q] at q'; cases q'
      obtain ⟨v, hv⟩ := heo
      exact ⟨v, by rw [hbe]; exact hv⟩
    · refine (ok b u q).stay (fun c v hc r => k c v ?_ r) (fun c r => by rw [upd_ne (nown c b r)]; exact r) fun c xs r => by rw [upd_ne (ntup c xs r)]; exact r
      rcases hc with rfl | hc
      · exact hbe
      · rintro rfl
        rcases he with z | z
        · exact nown c b hc z
        · rw [hc] at z; cases z; exact hb rfl
end
/-! ### kept unless tracked; of the frames at fs (the callers') the slots may change (an exception that passes writes there); of the records at ex (iterators) nothing is said -/
structure Un (fs ex : List Addr) (H H' : Hp) (h h' : Heap) : Prop where
  keep : ∀ b o, h.get? b = some o → H b = none → b ∉ fs → b ∉ ex → h'.get? b = some o
  slot : ∀ b o, h.get? b = some o → H b = none → b ∈ fs → b ∉ ex → ∃ sl, h'.get? b = some { o with slots := sl }
  free : ∀ b o, h.get? b = some o → H b = none → b ∉ ex → H' b = none
  there : ∀ b o, h.get? b = some o → b ∉ ex → ∃ o', h'.get? b = some o'
  tups : ∀ b xs, H b = some (.tup xs) → H' b = some (.tup xs)
  frzs : ∀ b o u, H b = some (.frz o u) → H' b = some (.frz o u)
  tbls : ∀ b ps, H b = some (.tbl ps) → ∃ more, H' b = some (.tbl (ps ++ more))
section
variable {fs fs' ex ex' : List Addr} {H H1 H2 : Hp} {h h1 h2 h' : Heap} {a x e : Addr} {o : HO}
theorem Un.any (u : Un fs ex H H1 h h1) {b : Addr} {ob : Obj} (q : h.get? b = some ob) (n : H b = none) (hx : b ∉ ex) : ∃ sl, h1.get? b = some { ob with slots := sl } := by
  by_cases hb : b ∈ fs
  · exact u.slot b ob q n hb hx
  · exact ⟨ob.slots, u.keep b ob q n hb hx⟩
theorem Un.kept (k : ∀ b u, h.get? b = some u → h'.get? b = some u) : Un fs ex H H h h' :=
  ⟨fun b ob q _ _ _ => k b ob q, fun b ob q _ _ _ => ⟨ob.slots, k b ob q⟩, fun _ _ _ n _ => n, fun b ob q _ => ⟨ob, k b ob q⟩, fun _ _ q => q, fun _ _ _ q => q, fun _ ps q => ⟨#[], by rw [q]; simp⟩⟩
theorem Un.refl : Un fs ex H H h h := Un.kept fun _ _ q => q
theorem Un.laid (k : ∀ b u, h.get? b = some u → h'.get? b = some u) (hp : h.objs.size ≤ a) (hn : H a = none) : Un fs ex H (upd H a o) h h' where
  keep := fun b u q _ _ _ => k b u q
  slot := fun b u q _ _ _ => ⟨u.slots, k b u q⟩
  free := fun b u q n _ => by rw [upd_ne (Nat.ne_of_lt (Nat.lt_of_lt_of_le (Heap.lt_size q) hp))]; exact n
  there := fun b u q _ => ⟨u, k b u q⟩
  tups := fun b xs q => by rw [upd_ne (ne_of_none q hn)]; exact q
  frzs := fun b u xs q => by rw [upd_ne (ne_of_none q hn)]; exact q
  tbls := fun b ps q => ⟨#[], by rw [upd_ne (ne_of_none q hn), q]; simp⟩
theorem Un.write (mu : Mut (H x)) (he : e = x ∨ H e = some (.own x)) (k : ∀ b u, b ≠ e → h.get? b = some u → h'.get? b = some u) (heo : ∃ u, h'.get? e = some u) : Un fs ex H (upd H x o) h h' := by
  have hx : ∀ b, H b = none → b ≠ x := fun b n z => by subst z; rw [n] at mu; exact mu
  have hb : ∀ b, H b = none → b ≠ e := fun b n z => by
    subst z
    rcases he with r | r
    · exact hx b n r
    · rw [n] at r; cases r
  have hm : ∀ b u, H b = some u → ¬ Mut (some u) → b ≠ x := fun b u q nm z => by subst z; rw [q] at mu; exact nm mu
  refine ⟨fun b u q n _ _ => k b u (hb b n) q, fun b u q n _ _ => ⟨u.slots, k b u (hb b n) q⟩, fun b u q n _ => by rw [upd_ne (hx b n)]; exact n, fun b u q _ => ?_,
    fun b xs q => by rw [upd_ne (hm b _ q fun z => z)]; exact q, fun b u xs q => by rw [upd_ne (hm b _ q fun z => z)]; exact q, fun b ps q => ⟨#[], by rw [upd_ne (hm b _ q fun z => z), q]; simp⟩⟩
  by_cases hbe : b = e
  · subst hbe; exact heo
  · exact ⟨u, k b u hbe q⟩
end
/-! ### the heap without what is tracked -/
def trk (h : Heap) (H : Hp) : List Addr := (List.range h.objs.size).filter fun a => (H a).isSome
def hidT (h : Heap) (H : Hp) : Heap := PySem.W.hideAll h (trk h H)
theorem hidT_size (h : Heap) (H : Hp) : (hidT h H).objs.size = h.objs.size := PySem.W.hideAll_size _ _
theorem hidT_get {h : Heap} {H : Hp} {b : Addr} {o : Obj} (e : h.get? b = some o) (n : H b = none) : (hidT h H).get? b = some o :=
  PySem.W.hideAll_get _ e fun hm => by
    have q : (H b).isSome = true := (List.mem_filter.mp hm).2
    rw [n] at q; simp at q
theorem of_hidT {h : Heap} {H : Hp} {b : Addr} {o : Obj} (e : (hidT h H).get? b = some o) : h.get? b = some o ∧ H b = none := by
  have e' : h.get? b = some o := PySem.W.of_hideAll (trk h H) e
  refine ⟨e', ?_⟩
  cases q : H b with
  | none => rfl
  | some x =>
    have hm : b ∈ trk h H := List.mem_filter.mpr ⟨List.mem_range.mpr (Heap.lt_size e'), by simp [q]⟩
    have z : (hidT h H).get? b = none := PySem.W.hideAll_none (trk h H) hm
    rw [z] at e; cases e
/-! ### OpenK's ledger, filled with every new object but one -/
end L2
namespace L2
open PySem PySem.Spec PyProof.Rows
/-- the module's facts, over the base: the heap at the law's entry without what is tracked there -/
structure Mod (K : PySem.W.Frag) (mg : Str → Option Value) (base : Heap) : Prop where
  kin : K.In base
  glob : base.Ns mainGlobals mg
  blt : ∃ mb, base.Ns builtinsNs mb ∧ ∀ x : Str, x ≠ "__name__" → mb x = bootBuiltins x
  nolimit : base.NoLimit
/-- the context: a def's body (or a comprehension's block) running. base: fixed through the whole law; s₀, H₀: the entry; outer: the frames whose slots others may change (a def's callers); stack: all frames that run;
   ex: iterators that were made ahead of the entry and are walked here (a comprehension's); fn: the names whose cells were made at the entry (a def: all; a comprehension's block: its own); calm: not within an except suite; pn: pins that every state bears; xe: what is wanted of an exception that leaves the code -/
structure Cx where
  prog : Program
  w : World
  K : PySem.W.Frag
  mg : Str → Option Value
  base : Heap
  A : Around
  N : List Str
  s_0 : Shared
  H_0 : Hp
  env : Env
  outer : List Env
  stack : List Env
  ex : List Addr
  fn : Str → Bool
  calm : Bool
  pn : List (Addr × Obj)
  xe : Value → Shared → Prop
/-- the callers' frames -/
def frs (l : List Env) : List Addr := l.filterMap (·.frame)
abbrev Cx.fs (X : Cx) : List Addr := frs X.outer
def Vis (sc : Scope) (x : Str) : Prop := sc.names.lookup x = some .local ∨ sc.names.lookup x = some .cell ∨ sc.names.lookup x = some .free
def Loc (sc : Scope) (x : Str) : Prop := sc.names.lookup x = some .local ∨ sc.names.lookup x = some .cell
def Look (env : Env) (h : Heap) (m : Str → Option Value) (x : Str) (u : Value) : Prop :=
  (env.kindOf x = some .local ∧ m x = some u) ∨ ((env.kindOf x = some .cell ∨ env.kindOf x = some .free) ∧ ∃ c, env.cells.lookup x = some c ∧ h.IsCell c (some u))
structure Cx.Ok (X : Cx) : Prop where
  mod : Mod X.K X.mg X.base
  kind : X.env.scope.kind = .function
  glob : X.env.globals = mainGlobals
  blt : X.env.builtins = builtinsNs
  above : X.s_0.heap.objs.size ≤ X.env.locals
  inj : ∀ x y c, X.env.cells.lookup x = some c → X.env.cells.lookup y = some c → x = y
  has : ∀ x, (X.env.kindOf x = some .cell ∨ X.env.kindOf x = some .free) → ∃ c, X.env.cells.lookup x = some c
  cab : ∀ x c, X.fn x = true → X.env.cells.lookup x = some c → X.s_0.heap.objs.size ≤ c
  hd : X.calm = true → X.A.handled = none
  frames : X.A.frames = some X.stack
  stk : X.stack = X.outer ∨ (X.stack = X.env :: X.outer ∧ X.env.frame = some X.env.locals)
  exf : ∀ b ∈ X.ex, b ≠ X.env.locals ∧ ∀ x c, X.env.cells.lookup x = some c → c ≠ b
  bs : ∀ b o, X.base.get? b = some o → X.s_0.heap.get? b = some o ∧ X.H_0 b = none
  bsz : X.base.objs.size ≤ X.s_0.heap.objs.size
  noex : ∀ b o, X.base.get? b = some o → b ∉ X.ex
  exfs : ∀ b ∈ X.ex, b ∉ X.fs
  funs : X.s_0.heap.FunFrames X.base X.outer
  frf : ∀ b ∈ X.fs, X.H_0 b = none
structure Inv (X : Cx) (pins : List (Addr × Obj)) (σ : List (Option V)) (H : Hp) (s : Shared) : Prop where
  ok : X.Ok
  os : s.os = X.s_0.os
  bare : AllBare s.gens
  base : Un X.fs X.ex X.H_0 H X.s_0.heap s.heap
  loc : ∃ m, s.heap.Ns X.env.locals m ∧ ∀ (i : Nat) (x : Str) (v : V), X.N[i]? = some x → σ[i]? = some (some v) → Vis X.env.scope x → ∃ u, RelV v u ∧ Look X.env s.heap m x u
  cell : ∀ x c, X.env.cells.lookup x = some c → ∃ v, s.heap.IsCell c v
  free : H X.env.locals = none
  freeC : ∀ x c, X.env.cells.lookup x = some c → H c = none
  pin : ∀ p ∈ X.pn ++ pins, s.heap.get? p.1 = some p.2 ∧ H p.1 = none ∧ p.1 ≠ X.env.locals ∧ p.1 ∉ X.fs ∧ ∀ v, p.2.data ≠ .cell v
  hok : HOk X.prog X.w H s.heap
  len : σ.length = X.N.length
section
variable {X : Cx} {pins : List (Addr × Obj)} {σ : List (Option V)} {H H' : Hp} {s : Shared} {h' : Heap}
theorem Cx.Ok.nofr (ok : X.Ok) {b : Addr} {o : Obj} (e : X.base.get? b = some o) : b ∉ X.fs := fun hb => by
  have := (ok.funs.mem hb).1
  rw [e] at this; cases this
theorem Inv.bs (I : Inv X pins σ H s) : ∀ b o, X.base.get? b = some o → s.heap.get? b = some o ∧ H b = none := fun b o e =>
  ⟨I.base.keep b o (I.ok.bs b o e).1 (I.ok.bs b o e).2 (I.ok.nofr e) (I.ok.noex b o e), I.base.free b o (I.ok.bs b o e).1 (I.ok.bs b o e).2 (I.ok.noex b o e)⟩
theorem Inv.bk (I : Inv X pins σ H s) : ∀ b o, X.base.get? b = some o → s.heap.get? b = some o := fun b o e => (I.bs b o e).1
theorem Inv.mod (I : Inv X pins σ H s) : Mod X.K X.mg X.base := I.ok.mod
theorem Inv.kIn (I : Inv X pins σ H s) : X.K.In s.heap := I.ok.mod.kin.keeps I.bk
theorem Inv.lt (I : Inv X pins σ H s) : X.env.locals < s.heap.objs.size := let ⟨_, hn, _⟩ := I.loc; hn.lt
theorem Inv.sz (I : Inv X pins σ H s) : X.s_0.heap.objs.size ≤ s.heap.objs.size := Nat.le_trans I.ok.above (Nat.le_of_lt I.lt)
theorem Inv.nofs (I : Inv X pins σ H s) {a : Addr} (h : s.heap.objs.size ≤ a) : a ∉ X.fs := fun hb => by
  obtain ⟨_, o, ho, _⟩ := I.ok.funs.mem hb
  exact absurd (Nat.lt_of_lt_of_le (Heap.lt_size ho) (Nat.le_trans I.sz h)) (Nat.lt_irrefl _)
theorem Inv.cne (I : Inv X pins σ H s) : ∀ x c, X.env.cells.lookup x = some c → c ≠ X.env.locals := fun x c e z => by
  obtain ⟨v, o, ho, hd⟩ := I.cell x c e
  obtain ⟨m, ⟨o', es, ep, ho', hd', _⟩, _⟩ := I.loc
  rw [z, ho'] at ho; cases ho; rw [hd'] at hd; cases hd
theorem Inv.funs (I : Inv X pins σ H s) : s.heap.FunFrames X.base X.outer := by
  have all : ∀ (l : List Env), (∀ b ∈ frs l, b ∈ X.fs) → X.s_0.heap.FunFrames X.base l → s.heap.FunFrames X.base l := by
    intro l
    induction l with
    | nil => intro _ _; trivial
    | cons env r ih =>
      intro hs hl
      obtain ⟨hk, ⟨L, o, hf, hn, ho, hd⟩, hr⟩ := hl
      have hL : L ∈ X.fs := hs L (by unfold frs; rw [List.filterMap_cons, hf]; exact List.mem_cons_self)
      obtain ⟨sl, e⟩ := I.base.slot L o ho (I.ok.frf L hL) hL fun z => I.ok.exfs L z hL
      exact ⟨hk, ⟨L, _, hf, hn, e, hd⟩, ih (fun b hb => hs b (by unfold frs; rw [List.filterMap_cons, hf]; exact List.mem_cons_of_mem _ hb)) hr⟩
  exact all X.outer (fun _ hb => hb) I.ok.funs
/-- the frames that run, for a call -/
theorem Inv.stack (I : Inv X pins σ H s) : s.heap.FunFrames X.base X.stack := by
  rcases I.ok.stk with e | ⟨e, hf⟩
  · rw [e]; exact I.funs
  · rw [e]
    obtain ⟨m, hn, _⟩ := I.loc
    refine .cons (by rw [I.ok.kind]; decide) hf hn ?_ I.funs
    exact Heap.get?_none_of_le (Nat.le_trans I.ok.bsz I.ok.above)
theorem Inv.stkSub (I : Inv X pins σ H s) : ∀ b ∈ frs X.stack, b ∈ X.env.locals :: X.fs := fun b hb => by
  rcases I.ok.stk with e | ⟨e, hf⟩
  · rw [e] at hb; exact List.mem_cons_of_mem _ hb
  · rw [e] at hb
    unfold frs at hb
    rw [List.filterMap_cons, hf] at hb
    exact hb
theorem Inv.stkFree (I : Inv X pins σ H s) : ∀ b ∈ frs X.stack, H b = none := fun b hb => by
  rcases List.mem_cons.mp (I.stkSub b hb) with e | hb
  · rw [e]; exact I.free
  · obtain ⟨_, o, ho, _⟩ := I.ok.funs.mem hb
    exact I.base.free b o ho (I.ok.frf b hb) fun z => I.ok.exfs b z hb
/-- THE STEP: the untracked objects but the frame and the records at ch are kept (the callers' frames up to slots), the frame's map is kept, the new abstract heap is held -/
theorem Inv.step {g' : Array GenState} {t' : Nat} {d' : Drawn} {ch : List Addr} (I : Inv X pins σ H s)
    (hch : ∀ b ∈ ch, (b ∈ X.ex ∨ X.s_0.heap.objs.size ≤ b) ∧ b ≠ X.env.locals ∧ (∀ x c, X.env.cells.lookup x = some c → c ≠ b) ∧ ∀ p ∈ X.pn ++ pins, p.1 ≠ b)
    (keep : ∀ b o, b ≠ X.env.locals → b ∉ X.fs → b ∉ ch → s.heap.get? b = some o → H b = none → h'.get? b = some o)
    (slot : ∀ b o, b ≠ X.env.locals → b ∈ X.fs → b ∉ ch → s.heap.get? b = some o → H b = none → ∃ sl, h'.get? b = some { o with slots := sl }) (free : ∀ b o, b ∉ ch → s.heap.get? b = some o → H b = none → H' b = none)
    (there : ∀ b o, b ∉ ch → s.heap.get? b = some o → ∃ o', h'.get? b = some o')
    (tups : ∀ b xs, H b = some (.tup xs) → H' b = some (.tup xs)) (frzs : ∀ b o u, H b = some (.frz o u) → H' b = some (.frz o u)) (tbls : ∀ b ps, H b = some (.tbl ps) → ∃ more, H' b = some (.tbl (ps ++ more)))
    (ns : ∀ m, s.heap.Ns X.env.locals m → h'.Ns X.env.locals m) (hok : HOk X.prog X.w H' h') (hg : AllBare g') :
    Inv X pins σ H' { s with heap := h', gens := g', drawn := d', toks := t' } := by
  have neL : ∀ b o, X.s_0.heap.get? b = some o → b ≠ X.env.locals := fun b o e => Nat.ne_of_lt (Nat.lt_of_lt_of_le (Heap.lt_size e) I.ok.above)
  have neC : ∀ b o, X.s_0.heap.get? b = some o → b ∉ X.ex → b ∉ ch := fun b o e hx hb => by
    rcases (hch b hb).1 with z | z
    · exact hx z
    · exact absurd (Nat.lt_of_lt_of_le (Heap.lt_size e) z) (Nat.lt_irrefl _)
  have cellK : ∀ x c, X.env.cells.lookup x = some c → ∀ v, s.heap.IsCell c v → h'.IsCell c v := fun x c e v ⟨o, ho, hd⟩ => by
    have nch : c ∉ ch := fun z => (hch c z).2.2.1 x c e rfl
    by_cases hc : c ∈ X.fs
    · obtain ⟨sl, q⟩ := slot c o (I.cne x c e) hc nch ho (I.freeC x c e)
      exact ⟨_, q, hd⟩
    · exact ⟨o, keep c o (I.cne x c e) hc nch ho (I.freeC x c e), hd⟩
  refine ⟨I.ok, I.os, hg, ⟨fun b o e n hb hx => ?_, fun b o e n hb hx => ?_, fun b o e n hx => ?_, fun b o e hx => ?_, fun b xs e => tups b xs (I.base.tups b xs e), fun b o xs e => frzs b o xs (I.base.frzs b o xs e), fun b ps e => ?_⟩, ?_, fun x c e => ?_, ?_, fun x c e => ?_, fun p hp => ?_, hok, I.len⟩
  · exact keep b o (neL b o e) hb (neC b o e hx) (I.base.keep b o e n hb hx) (I.base.free b o e n hx)
  · obtain ⟨sl, e1⟩ := I.base.slot b o e n hb hx
    obtain ⟨sl', e2⟩ := slot b _ (neL b o e) hb (neC b o e hx) e1 (I.base.free b o e n hx)
    exact ⟨sl', e2⟩
  · obtain ⟨o', e1⟩ := I.base.there b o e hx
    exact free b o' (neC b o e hx) e1 (I.base.free b o e n hx)
  · obtain ⟨o', e1⟩ := I.base.there b o e hx
    exact there b o' (neC b o e hx) e1
  · obtain ⟨m1, e1⟩ := I.base.tbls b ps e
    obtain ⟨m2, e2⟩ := tbls b _ e1
    exact ⟨m1 ++ m2, by rw [e2, Array.append_assoc]⟩
  · obtain ⟨m, hn, hl⟩ := I.loc
    refine ⟨m, ns m hn, fun i x v e1 e2 e3 => ?_⟩
    obtain ⟨u, r, l⟩ := hl i x v e1 e2 e3
    refine ⟨u, r, ?_⟩
    rcases l with l | ⟨k, c, e, z⟩
    · exact .inl l
    · exact .inr ⟨k, c, e, cellK x c e _ z⟩
  · obtain ⟨v, z⟩ := I.cell x c e
    exact ⟨v, cellK x c e v z⟩
  · obtain ⟨m, ⟨o, _, _, ho, _⟩, _⟩ := I.loc
    exact free _ o (fun z => (hch _ z).2.1 rfl) ho I.free
  · obtain ⟨v, o, ho, hd⟩ := I.cell x c e
    exact free c o (fun z => (hch c z).2.2.1 x c e rfl) ho (I.freeC x c e)
  · obtain ⟨e, n, ne, nf, d⟩ := I.pin p hp
    have nch : p.1 ∉ ch := fun z => (hch p.1 z).2.2.2 p hp rfl
    exact ⟨keep p.1 p.2 ne nf nch e n, free p.1 p.2 nch e n, ne, nf, d⟩
/-- .. where the frame's own object is kept too -/
theorem Inv.un {t' : Nat} (I : Inv X pins σ H s) (u : Un X.fs [] H H' s.heap h') (hok : HOk X.prog X.w H' h') : Inv X pins σ H' { s with heap := h', toks := t' } := by
  obtain ⟨m, ⟨o, es, ep, ho, r⟩, _⟩ := id I.loc
  obtain ⟨sl, hL⟩ := u.any ho I.free (by simp)
  exact I.step (g' := s.gens) (d' := s.drawn) (ch := []) (fun _ z => nomatch z) (fun b o _ hb _ e n => u.keep b o e n hb (by simp)) (fun b o _ hb _ e n => u.slot b o e n hb (by simp)) (fun b o _ e n => u.free b o e n (by simp)) (fun b o _ e => u.there b o e (by simp)) u.tups u.frzs u.tbls (fun m' hm => by
    obtain ⟨o', es', ep', ho', r'⟩ := hm
    rw [ho] at ho'; cases ho'
    exact ⟨_, es', ep', hL, r'⟩) hok I.bare
/-- behind a call (or a comprehension's block): the slots of this frame may have changed too, the records at ch may have turned -/
theorem Inv.call {g' : Array GenState} {t' : Nat} {d' : Drawn} {ch : List Addr} (I : Inv X pins σ H s) (u : Un (frs X.stack) ch H H' s.heap h') (hok : HOk X.prog X.w H' h') (hg : AllBare g')
    (hch : ∀ b ∈ ch, (b ∈ X.ex ∨ X.s_0.heap.objs.size ≤ b) ∧ b ≠ X.env.locals ∧ (∀ x c, X.env.cells.lookup x = some c → c ≠ b) ∧ ∀ p ∈ X.pn ++ pins, p.1 ≠ b) :
    Inv X pins σ H' { s with heap := h', gens := g', drawn := d', toks := t' } := by
  obtain ⟨m, ⟨o, es, ep, ho, r⟩, _⟩ := id I.loc
  obtain ⟨sl, hL⟩ := u.any ho I.free fun z => (hch _ z).2.1 rfl
  exact I.step (ch := ch) hch (fun b o hL hb hc e n => u.keep b o e n (fun z => (List.mem_cons.mp (I.stkSub b z)).elim hL hb) hc) (fun b o _ _ hc e n => u.any e n hc) (fun b o hc e n => u.free b o e n hc) (fun b o hc e => u.there b o e hc) u.tups u.frzs u.tbls (fun m' hm => by
    obtain ⟨o', es', ep', ho', r'⟩ := hm
    rw [ho] at ho'; cases ho'
    exact ⟨_, es', ep', hL, r'⟩) hok hg
/-- an untracked record of ours (an iterator) has turned -/
theorem Inv.turned {t' : Nat} {it : Addr} (I : Inv X pins σ H s) (k : ∀ b o, b ≠ it → s.heap.get? b = some o → h'.get? b = some o) (hn : H it = none) (hL : it ≠ X.env.locals)
    (h1 : it ∈ X.ex ∨ X.s_0.heap.objs.size ≤ it) (h2 : ∀ x c, X.env.cells.lookup x = some c → c ≠ it) (h3 : ∀ p ∈ X.pn ++ pins, p.1 ≠ it) : Inv X pins σ H { s with heap := h', toks := t' } := by
  have nit : ∀ b u, H b = some u → b ≠ it := fun b u e z => by rw [z, hn] at e; cases e
  refine I.step (g' := s.gens) (d' := s.drawn) (ch := [it]) (fun b hb => ?_) (fun b o _ _ hc e _ => k b o (fun z => hc (by simp [z])) e) (fun b o _ _ hc e _ => ⟨o.slots, k b o (fun z => hc (by simp [z])) e⟩) (fun _ _ _ _ n => n)
    (fun b o hc e => ⟨o, k b o (fun z => hc (by simp [z])) e⟩) (fun _ _ e => e) (fun _ _ _ e => e) (fun b ps e => ⟨#[], by rw [e]; simp⟩) (fun m hm => ?_) (fun b u e => ?_) I.bare
  · have e : b = it := by simpa using hb
    subst e
    exact ⟨h1, hL, h2, h3⟩
  · obtain ⟨o, es, ep, ho, r⟩ := hm
    exact ⟨o, es, ep, k _ o (Ne.symm hL) ho, r⟩
  · refine (I.hok b u e).stay (fun c v hc q => k c v ?_ q) (fun _ q => q) fun _ _ q => q
    rcases hc with z | z
    · rw [z]; exact nit b u e
    · exact nit c _ z
theorem Inv.tok (I : Inv X pins σ H s) (t : Nat) : Inv X pins σ H { s with toks := t } := I.un (h' := s.heap) (t' := t) Un.refl I.hok
/-- all objects kept -/
theorem Inv.kept {t' : Nat} (I : Inv X pins σ H s) (k : ∀ b u, s.heap.get? b = some u → h'.get? b = some u) : Inv X pins σ H { s with heap := h', toks := t' } := I.un (Un.kept k) (I.hok.kept k)
/-- a new object laid and tracked -/
theorem Inv.laid {a : Addr} {o : HO} {t' : Nat} (I : Inv X pins σ H s) (k : ∀ b u, s.heap.get? b = some u → h'.get? b = some u) (hp : s.heap.objs.size ≤ a) (new : ObjOk X.prog X.w (upd H a o) h' a o) :
    Inv X pins σ (upd H a o) { s with heap := h', toks := t' } := I.un (Un.laid k hp (I.hok.fresh hp)) (I.hok.laid k hp new)
/-- an object written -/
theorem Inv.write {x e : Addr} {o : HO} {t' : Nat} (I : Inv X pins σ H s) (mu : Mut (H x)) (he : e = x ∨ H e = some (.own x)) (k : ∀ b u, b ≠ e → s.heap.get? b = some u → h'.get? b = some u) (heo : ∃ u, h'.get? e = some u)
    (new : ObjOk X.prog X.w (upd H x o) h' x o) : Inv X pins σ (upd H x o) { s with heap := h', toks := t' } := I.un (Un.write mu he k heo) (I.hok.write mu he k heo new)
/-- forgetting slots, pins -/
theorem Inv.weak {σ' : List (Option V)} (I : Inv X pins σ H s) (hl : σ'.length = σ.length) (w : ∀ (i : Nat) v, σ'[i]? = some (some v) → σ[i]? = some (some v)) : Inv X pins σ' H s :=
  ⟨I.ok, I.os, I.bare, I.base, let ⟨m, hn, hl'⟩ := I.loc; ⟨m, hn, fun i x v e1 e2 e3 => hl' i x v e1 (w i v e2) e3⟩, I.cell, I.free, I.freeC, I.pin, I.hok, hl.trans I.len⟩
theorem Inv.pins_of {pins' : List (Addr × Obj)} (I : Inv X pins σ H s) (h : ∀ p ∈ pins', s.heap.get? p.1 = some p.2 ∧ H p.1 = none ∧ p.1 ≠ X.env.locals ∧ p.1 ∉ X.fs ∧ ∀ v, p.2.data ≠ .cell v) : Inv X pins' σ H s :=
  ⟨I.ok, I.os, I.bare, I.base, I.loc, I.cell, I.free, I.freeC, fun p hp => (List.mem_append.mp hp).elim (fun z => I.pin p (List.mem_append_left _ z)) (h p), I.hok, I.len⟩
theorem nodup_ix {N : List Str} (hN : N.Nodup) {i j : Nat} {x : Str} (a : N[i]? = some x) (b : N[j]? = some x) : i = j := by
  obtain ⟨h1, e1⟩ := List.getElem?_eq_some_iff.mp a
  obtain ⟨h2, e2⟩ := List.getElem?_eq_some_iff.mp b
  exact (List.getElem_inj hN).mp (e1.trans e2.symm)
/-- a name is stored; what changed -/
theorem store_ok2 {M : Model} {A : Around} {E : Value → Shared → Prop} {i : Nat} {x : Str} {v : V} {u : Value} {Q : Unit → Shared → Prop} (I : Inv X pins σ H s) (hN : X.N.Nodup) (hi : X.N[i]? = some x) (hx : Loc X.env.scope x) (r : RelV v u)
    (h : ∀ s', Inv X pins (σ.set i (some v)) H s' → (∃ a, Heap.SameBut a s.heap s'.heap ∧ (a = X.env.locals ∨ X.env.cells.lookup x = some a)) → Q () s') (hf : X.fn x = true ∨ X.env.scope.names.lookup x = some .local := by first | exact .inl rfl | exact .inr rfl | assumption) : wpAny M A (storeName X.env x u) Q E s := by
  obtain ⟨m, hn, hl⟩ := id I.loc
  have hcls : (X.env.scope.kind == .class || (X.env.scope.kind == .module && X.env.locals != X.env.globals)) = false := by rw [I.ok.kind]; rfl
  have hiσ : i < σ.length := by rw [I.len]; exact (List.getElem?_eq_some_iff.mp hi).1
  have cne := I.cne
  have tracked : ∀ {a : Addr} {h' : Heap}, (∃ o, s.heap.get? a = some o ∧ H a = none) → Heap.SameBut a s.heap h' → HOk X.prog X.w H h' := fun {a h'} ha hs b ob e => by
    obtain ⟨_, _, hfree⟩ := ha
    refine (I.hok b ob e).stay (fun c w' hc q => (hs.2 c ?_).trans q) (fun _ q => q) fun _ _ q => q
    rintro rfl
    rcases hc with rfl | hc
    · rw [hfree] at e; cases e
    · rw [hfree] at hc; cases hc
  rcases hx with hk | hk
  · refine wpAny_storeName_local hk hn (fun h' hn' hs => ?_) hcls
    obtain ⟨oL, _, _, hoL, _⟩ := id hn
    refine h _ ⟨I.ok, I.os, I.bare, ⟨fun b o e n hb hx => ?_, fun b o e n hb hx => ?_, I.base.free, fun b o e hx => ?_, I.base.tups, I.base.frzs, I.base.tbls⟩, ⟨_, hn', fun j y v' e1 e2 e3 => ?_⟩, fun y c e => ?_, I.free, I.freeC, fun p hp => ?_, tracked ⟨oL, hoL, I.free⟩ hs, by simpa using I.len⟩ ⟨_, hs, .inl rfl⟩
    · exact (hs.2 b (Nat.ne_of_lt (Nat.lt_of_lt_of_le (Heap.lt_size e) I.ok.above))).trans (I.base.keep b o e n hb hx)
    · obtain ⟨sl, e1⟩ := I.base.slot b o e n hb hx
      exact ⟨sl, (hs.2 b (Nat.ne_of_lt (Nat.lt_of_lt_of_le (Heap.lt_size e) I.ok.above))).trans e1⟩
    · obtain ⟨o', e1⟩ := I.base.there b o e hx
      exact ⟨o', (hs.2 b (Nat.ne_of_lt (Nat.lt_of_lt_of_le (Heap.lt_size e) I.ok.above))).trans e1⟩
    · by_cases hj : j = i
      · subst hj
        rw [hi] at e1; cases e1
        rw [List.getElem?_set_self hiσ] at e2
        cases e2
        exact ⟨u, r, .inl ⟨hk, by simp⟩⟩
      · rw [List.getElem?_set_ne (Ne.symm hj)] at e2
        obtain ⟨u', r', q⟩ := hl j y v' e1 e2 e3
        refine ⟨u', r', ?_⟩
        rcases q with ⟨k, e⟩ | ⟨k, c, e, z⟩
        · refine .inl ⟨k, ?_⟩
          have : y ≠ x := fun e => hj (nodup_ix hN e1 (e ▸ hi))
          simp [this, e]
        · exact .inr ⟨k, c, e, z.sameBut hs (cne y c e)⟩
    · obtain ⟨w', z⟩ := I.cell y c e
      exact ⟨w', z.sameBut hs (cne y c e)⟩
    · obtain ⟨e, n, ne, nf, d⟩ := I.pin p hp
      exact ⟨(hs.2 p.1 ne).trans e, n, ne, nf, d⟩
  · have hfn : X.fn x = true := by
      rcases hf with z | z
      · exact z
      · rw [z] at hk; cases hk
    obtain ⟨c, hc⟩ := I.ok.has x (.inl hk)
    obtain ⟨w', z⟩ := I.cell x c hc
    refine wpAny_storeName_cell I.ok.kind hk hc z (fun h' hc' hs => ?_)
    obtain ⟨oc, hoc, hocd⟩ := id z
    refine h { s with heap := h' } ⟨I.ok, I.os, I.bare, ⟨fun b o e n hb hx => ?_, fun b o e n hb hx => ?_, I.base.free, fun b o e hx => ?_, I.base.tups, I.base.frzs, I.base.tbls⟩, ⟨m, hn.sameBut hs (Ne.symm (cne x c hc)), fun j y v' e1 e2 e3 => ?_⟩, fun y c' e => ?_, I.free, I.freeC, fun p hp => ?_, tracked ⟨oc, hoc, I.freeC x c hc⟩ hs, by simpa using I.len⟩ ⟨c, hs, .inr hc⟩
    · exact (hs.2 b (Nat.ne_of_lt (Nat.lt_of_lt_of_le (Heap.lt_size e) (I.ok.cab x c hfn hc)))).trans (I.base.keep b o e n hb hx)
    · obtain ⟨sl, e1⟩ := I.base.slot b o e n hb hx
      exact ⟨sl, (hs.2 b (Nat.ne_of_lt (Nat.lt_of_lt_of_le (Heap.lt_size e) (I.ok.cab x c hfn hc)))).trans e1⟩
    · obtain ⟨o', e1⟩ := I.base.there b o e hx
      exact ⟨o', (hs.2 b (Nat.ne_of_lt (Nat.lt_of_lt_of_le (Heap.lt_size e) (I.ok.cab x c hfn hc)))).trans e1⟩
    · by_cases hj : j = i
      · subst hj
        rw [hi] at e1; cases e1
        rw [List.getElem?_set_self hiσ] at e2
        cases e2
        exact ⟨u, r, .inr ⟨.inl hk, c, hc, hc'⟩⟩
      · rw [List.getElem?_set_ne (Ne.symm hj)] at e2
        obtain ⟨u', r', q⟩ := hl j y v' e1 e2 e3
        refine ⟨u', r', ?_⟩
        rcases q with q | ⟨k, c', e, z'⟩
        · exact .inl q
        · refine .inr ⟨k, c', e, z'.sameBut hs ?_⟩
          rintro rfl
          exact hj (nodup_ix hN e1 (I.ok.inj _ _ _ e hc ▸ hi))
    · by_cases hcc : c' = c
      · subst hcc; exact ⟨_, hc'⟩
      · obtain ⟨w2, z2⟩ := I.cell y c' e
        exact ⟨w2, z2.sameBut hs hcc⟩
    · obtain ⟨e, n, ne, nf, d⟩ := I.pin p hp
      refine ⟨(hs.2 p.1 ?_).trans e, n, ne, nf, d⟩
      intro q
      rw [q, hoc] at e
      have q' : oc = p.2 := Option.some.inj e
      exact d w' (by rw [← q']; exact hocd)
theorem store_ok {M : Model} {A : Around} {E : Value → Shared → Prop} {i : Nat} {x : Str} {v : V} {u : Value} {Q : Unit → Shared → Prop} (I : Inv X pins σ H s) (hN : X.N.Nodup) (hi : X.N[i]? = some x) (hx : Loc X.env.scope x) (r : RelV v u)
    (h : ∀ s', Inv X pins (σ.set i (some v)) H s' → Q () s') (hf : X.fn x = true ∨ X.env.scope.names.lookup x = some .local := by first | exact .inl rfl | exact .inr rfl | assumption) : wpAny M A (storeName X.env x u) Q E s :=
  store_ok2 I hN hi hx r (fun s' I' _ => h s' I') hf
/-- behind a call or a block, the state as it is -/
theorem Inv.call' {s' : Shared} {ch : List Addr} (I : Inv X pins σ H s) (ho : s'.os = s.os) (u : Un (frs X.stack) ch H H' s.heap s'.heap) (hok : HOk X.prog X.w H' s'.heap) (hg : AllBare s'.gens)
    (hch : ∀ b ∈ ch, (b ∈ X.ex ∨ X.s_0.heap.objs.size ≤ b) ∧ b ≠ X.env.locals ∧ (∀ x c, X.env.cells.lookup x = some c → c ≠ b) ∧ ∀ p ∈ X.pn ++ pins, p.1 ≠ b) : Inv X pins σ H' s' := by
  obtain ⟨h', g', d', t', o'⟩ := s'
  have e : o' = s.os := ho
  subst e
  exact I.call (g' := g') (t' := t') (d' := d') u hok hg hch
end
/-! ### the judgements -/
/-- an exception: its class, its own dict's address (where it has one), the abstract heap behind it -/
abbrev XK := Value → Option Addr → Hp → Prop
abbrev St := List (Option V)
abbrev VK := V → Hp → Prop
/-- an expression's reading; a test's; an argument list's -/
abbrev TE := St → Hp → VK → Prop
abbrev TT := St → Hp → (Bool → Hp → Prop) → Prop
abbrev TA := St → Hp → (List V → Hp → Prop) → Prop
/-- what is wanted behind a statement -/
structure Ends where
  nx : St → Hp → Prop
  rt : VK
  bk : St → Hp → Prop := fun _ _ => False
  ct : St → Hp → Prop := fun _ _ => False
abbrev TS := Ends → St → Hp → Prop
def EP (X : Cx) (pins : List (Addr × Obj)) (σ : St) (Q : VK) (u : Value) (s' : Shared) : Prop := ∃ v H', Inv X pins σ H' s' ∧ RelV v u ∧ Q v H'
def TP (X : Cx) (pins : List (Addr × Obj)) (σ : St) (Q : Bool → Hp → Prop) (b : Bool) (s' : Shared) : Prop := ∃ H', Inv X pins σ H' s' ∧ Q b H'
def AP (X : Cx) (pins : List (Addr × Obj)) (σ : St) (Q : List V → Hp → Prop) (us : List Value) (s' : Shared) : Prop := ∃ vs H', Inv X pins σ H' s' ∧ Vals vs us ∧ Q vs H'
def SP (X : Cx) (pins : List (Addr × Obj)) (D : Ends) (f : Flow) (s' : Shared) : Prop :=
  match f with
  | .next => ∃ σ' H', Inv X pins σ' H' s' ∧ D.nx σ' H'
  | .brk => ∃ σ' H', Inv X pins σ' H' s' ∧ D.bk σ' H'
  | .cont => ∃ σ' H', Inv X pins σ' H' s' ∧ D.ct σ' H'
  | .ret u => ∃ v σ' H', Inv X pins σ' H' s' ∧ RelV v u ∧ D.rt v H'
def PE (X : Cx) (e : Expr) (t : TE) : Prop :=
  ∀ (pins : List (Addr × Obj)) (s : Shared) (σ : St) (H : Hp) (Q : VK), Inv X pins σ H s → t σ H Q → wpAny (model X.prog X.w) X.A (eval e X.env) (EP X pins σ Q) X.xe s
def PT (X : Cx) (e : Expr) (t : TT) : Prop :=
  ∀ (pins : List (Addr × Obj)) (s : Shared) (σ : St) (H : Hp) (Q : Bool → Hp → Prop), Inv X pins σ H s → t σ H Q → wpAny (model X.prog X.w) X.A (isTrue e X.env (eval e X.env)) (TP X pins σ Q) X.xe s
/-- a test whatever its 'whole' is (and, or) -/
def PW (X : Cx) (e : Expr) (t : TT) : Prop :=
  ∀ (whole : Sem Value) (pins : List (Addr × Obj)) (s : Shared) (σ : St) (H : Hp) (Q : Bool → Hp → Prop), Inv X pins σ H s → t σ H Q → wpAny (model X.prog X.w) X.A (isTrue e X.env whole) (TP X pins σ Q) X.xe s
theorem PW.pt {X : Cx} {e : Expr} {t : TT} (h : PW X e t) : PT X e t := h _
/-- an argument list (no star), from the left -/
def PA (X : Cx) (es : List Expr) (t : TA) : Prop :=
  ∀ (pos : Pos) (pins : List (Addr × Obj)) (s : Shared) (σ : St) (H : Hp) (Q : List V → Hp → Prop), Inv X pins σ H s → t σ H Q → wpAny (model X.prog X.w) X.A (spliced (backTo pos (starEach es X.env))) (AP X pins σ Q) X.xe s
def PS (X : Cx) (st : Stmt) (t : TS) : Prop :=
  ∀ (pins : List (Addr × Obj)) (s : Shared) (σ : St) (H : Hp) (D : Ends), Inv X pins σ H s → t D σ H → wpAny (model X.prog X.w) X.A (exec st X.env) (SP X pins D) X.xe s
def PSs (X : Cx) (st : List Stmt) (t : TS) : Prop :=
  ∀ (pins : List (Addr × Obj)) (s : Shared) (σ : St) (H : Hp) (D : Ends), Inv X pins σ H s → t D σ H → wpAny (model X.prog X.w) X.A (execs st X.env) (SP X pins D) X.xe s
/-- weaken the end -/
theorem thn {α : Type} {t : Sem α} {Q Q' : α → Shared → Prop} {M : Model} {A : Around} {E : Value → Shared → Prop} {s : Shared} (h : wpAny M A t Q E s) (hQ : ∀ a s, Q a s → Q' a s) : wpAny M A t Q' E s := wpAny_mono h hQ fun _ _ x => x
end L2
namespace L2
open PySem PySem.Spec PyProof.Rows
section
variable {X : Cx}
/-! ### names and constants -/
def tVar (i : Nat) : TE := fun σ H Q => ∃ v, σ[i]? = some (some v) ∧ Q v H
def tC (v : V) : TE := fun _ H Q => Q v H
theorem pe_var {i : Nat} {x : Str} {pos : Pos} (hN : X.N[i]? = some x) (hv : Vis X.env.scope x) (hd : (x == ("__debug__" : Str)) = false := by decide) (hcd : (x == ("__classdict__" : Str)) = false := by decide) : PE X (.Name x pos) (tVar i) := by
  intro pins s σ H Q I h
  obtain ⟨v, e, h⟩ := h
  obtain ⟨m, hn, hl⟩ := I.loc
  obtain ⟨u, r, l⟩ := hl i x v hN e hv
  have fin : EP X pins σ Q u s := ⟨v, H, I, r, h⟩
  rcases l with ⟨hk, hm⟩ | ⟨hk, c, hc, hcell⟩
  · exact wpAny_Name (wpAny_loadName_local I.ok.kind hk hn hm fin) hd
  · rcases hk with hk | hk
    · exact wpAny_Name (wpAny_loadName_cell I.ok.kind hk hc hcell fin) hd
    · exact wpAny_Name (wpAny_loadName_free I.ok.kind hk hc hcell fin hcd) hd
theorem pe_int {i j pos} : PE X (.Constant (.int i) j pos) (tC (.int i)) := fun _ _ _ H _ I h => wpAny_Constant_int ⟨.int i, H, I.tok _, ⟨_, rfl⟩, h⟩
theorem pe_bl {b j pos} : PE X (.Constant (.bool b) j pos) (tC (.bl b)) := fun _ _ _ H _ I h => Constant_bool ⟨.bl b, H, I, rfl, h⟩
theorem pe_non {j pos} : PE X (.Constant .none j pos) (tC .non) := fun _ _ _ H _ I h => Constant_none ⟨.non, H, I, rfl, h⟩
/-- a global name of the def -/
def Gl (X : Cx) (x : Str) : Prop := X.env.kindOf x = some .globalImplicit
theorem ld_glob {E : Value → Shared → Prop} {pins : List (Addr × Obj)} {s : Shared} {σ : St} {H : Hp} {x : Str} {u : Value} {pos : Pos} {Q : Value → Shared → Prop} (I : Inv X pins σ H s) (hg : Gl X x) (hm : X.mg x = some u) (h : Q u s)
    (hd : (x == ("__debug__" : Str)) = false := by decide) : wpAny (model X.prog X.w) X.A (eval (.Name x pos) X.env) Q E s :=
  Calls.Name_function_global I.ok.kind hg (Calls.loadGlobal_global (by rw [I.ok.glob]; exact I.mod.glob.keeps I.bk) hm h) hd
theorem ld_blt {E : Value → Shared → Prop} {pins : List (Addr × Obj)} {s : Shared} {σ : St} {H : Hp} {x : Str} {u : Value} {pos : Pos} {Q : Value → Shared → Prop} (I : Inv X pins σ H s) (hg : Gl X x) (hm : X.mg x = none) (hv : bootBuiltins x = some u) (h : Q u s)
    (hn : x ≠ "__name__" := by decide) (hd : (x == ("__debug__" : Str)) = false := by decide) : wpAny (model X.prog X.w) X.A (eval (.Name x pos) X.env) Q E s := by
  obtain ⟨mb, h1, h2⟩ := I.mod.blt
  exact Calls.Name_function_global I.ok.kind hg (Calls.loadGlobal_builtin (by rw [I.ok.glob]; exact I.mod.glob.keeps I.bk) hm (by rw [I.ok.blt]; exact h1.keeps I.bk) ((h2 x hn).trans hv) h) hd
/-- a module's constant, a class, a function, as a value -/
theorem pe_glob {x : Str} {v : V} {u : Value} {pos : Pos} (hg : Gl X x) (hm : X.mg x = some u) (r : RelV v u) (hd : (x == ("__debug__" : Str)) = false := by decide) : PE X (.Name x pos) (tC v) :=
  fun _ _ _ H _ I h => ld_glob I hg hm ⟨v, H, I, r, h⟩ hd
/-! ### arithmetic -/
variable {a b : Expr} {ta tb : TE} {pos : Pos}
/-! ### comparisons -/
def PC (X : Cx) (op : CmpOp) (a b : Expr) (t : TE) : Prop :=
  ∀ (pins : List (Addr × Obj)) (s : Shared) (σ : St) (H : Hp) (Q : VK), Inv X pins σ H s → t σ H Q →
    wpAny (model X.prog X.w) X.A (eval a X.env) (fun v s₁ => wpAny (model X.prog X.w) X.A (eval b X.env) (fun u s₂ => wpAny (model X.prog X.w) X.A (compareOp op v u) (EP X pins σ Q) X.xe s₂) X.xe s₁) X.xe s
/-- a comparison as a value, as a test -/
def tB (t : TE) : TT := fun σ H Q => t σ H fun x H1 => ∃ c, x = .bl c ∧ Q c H1
theorem pt_cmp {op : CmpOp} {t : TE} (h : PC X op a b t) (h1 : behindInMarks op b = false := by first | exact nobehind _ (by decide) (by decide) | rfl) : PT X (.Compare a [op] [b] pos) (tB t) := by
  intro pins s σ H Q I hw
  refine wpAny_isTrue_Compare1 (thn (h pins s σ H _ I hw) fun v s1 h1 => thn h1 fun u s2 h2 => thn h2 fun c s3 ⟨x, H1, I1, r1, q1⟩ => ?_) h1
  obtain ⟨d, rfl, q⟩ := q1
  cases r1
  exact wpAny_truthy_bool ⟨H1, I1, q⟩
/-- an expression whose value is a bool, as a test -/
theorem pt_val {e : Expr} {t : TE} (h : PE X e t) (he : ∀ whole, isTrue e X.env whole = (do let v ← whole; standAt e.pos; holding [v] (truthy v)) := by intro _; rfl) : PT X e (tB t) := by
  intro pins s σ H Q I hw
  refine isTrue_plain (thn (h pins s σ H _ I hw) fun v s1 ⟨x, H1, I1, r1, q1⟩ => ?_) (he _)
  obtain ⟨d, rfl, q⟩ := q1
  cases r1
  exact wpAny_truthy_bool ⟨H1, I1, q⟩
/-! ### and, or, not -/
variable {tA tB' : TT} {rest : List Expr}
def tAnd (t u : TT) : TT := fun σ H Q => t σ H fun c H1 => if c = true then u σ H1 Q else Q false H1
def tOr (t u : TT) : TT := fun σ H Q => t σ H fun c H1 => if c = true then Q true H1 else u σ H1 Q
def tNot (t : TT) : TT := fun σ H Q => t σ H fun c H1 => Q (!c) H1
theorem pw_and1 (ha : PT X a tA) : PW X (.BoolOp .And [a] pos) tA := by
  intro wh pins s σ H Q I h
  refine isTrue_and (thn (ha pins s σ H Q I h) fun c s1 e => ?_)
  cases c with
  | true => exact isTrue_and_nil e
  | false => exact e
theorem pw_or1 (ha : PT X a tA) : PW X (.BoolOp .Or [a] pos) tA := by
  intro wh pins s σ H Q I h
  refine isTrue_or (thn (ha pins s σ H Q I h) fun c s1 e => ?_)
  cases c with
  | false => exact isTrue_or_nil e
  | true => exact e
theorem pw_and (ha : PT X a tA) (hb : PW X (.BoolOp .And (b :: rest) pos) tB') : PW X (.BoolOp .And (a :: b :: rest) pos) (tAnd tA tB') := by
  intro wh pins s σ H Q I h
  refine isTrue_and (thn (ha pins s σ H _ I h) fun c s1 ⟨H1, I1, q1⟩ => ?_)
  cases c with
  | true => exact hb wh pins s1 σ H1 Q I1 q1
  | false => exact ⟨H1, I1, q1⟩
theorem pw_or (ha : PT X a tA) (hb : PW X (.BoolOp .Or (b :: rest) pos) tB') : PW X (.BoolOp .Or (a :: b :: rest) pos) (tOr tA tB') := by
  intro wh pins s σ H Q I h
  refine isTrue_or (thn (ha pins s σ H _ I h) fun c s1 ⟨H1, I1, q1⟩ => ?_)
  cases c with
  | true => exact ⟨H1, I1, q1⟩
  | false => exact hb wh pins s1 σ H1 Q I1 q1
theorem pt_not (ha : PT X a tA) : PT X (.UnaryOp .Not a pos) (tNot tA) := by
  intro pins s σ H Q I h
  exact isTrue_not (ha pins s σ H (fun c H1 => Q (!c) H1) I h)
def tNotV (ta : TE) : TE := fun σ H Q => ta σ H fun x H1 => ∃ c, x = .bl c ∧ Q (.bl (!c)) H1
theorem pe_not (ha : PE X a ta) : PE X (.UnaryOp .Not a pos) (tNotV ta) := by
  intro pins s σ H Q I h
  refine UnaryOp_ (thn (ha pins s σ H _ I h) fun v s1 ⟨x, H1, I1, r1, q1⟩ => ?_)
  obtain ⟨c, rfl, q1⟩ := q1
  cases r1
  exact not_of (wpAny_truthy_bool ⟨.bl (!c), H1, I1, rfl, q1⟩)
/-- a if t else b -/
def tIf (t : TT) (ta tb : TE) : TE := fun σ H Q => t σ H fun c H1 => if c = true then ta σ H1 Q else tb σ H1 Q
theorem pe_ifExp {c : Expr} (hc : PT X c tA) (ha : PE X a ta) (hb : PE X b tb) : PE X (.IfExp c a b pos) (tIf tA ta tb) := by
  intro pins s σ H Q I h
  refine wpAny_IfExp (thn (hc pins s σ H _ I h) fun d s1 ⟨H1, I1, q1⟩ => ?_)
  cases d with
  | true => exact ha pins s1 σ H1 Q I1 q1
  | false => exact hb pins s1 σ H1 Q I1 q1
end
end L2
namespace L2
open PySem PySem.Spec PyProof.Rows
/-! ### a list, a tuple that is read: tracked, frozen, or an object of the module -/
def SqL (K : PySem.W.Frag) (H : Hp) (a : Addr) (xs : List V) : Prop :=
  Rd H a (.lst xs) ∨
    ∃ (o : Obj) (its : Array Value) (n : Nat), K.lookup a = some o ∧ o.cls = .type "list" ∧ o.dict = none ∧ o.data = .seq its n ∧ its.size ≤ sizeLine ∧ Vals xs its.toList
def SqT (K : PySem.W.Frag) (H : Hp) (a : Addr) (xs : List V) : Prop :=
  Rd H a (.tup xs) ∨
    ∃ (o : Obj) (its : Array Value) (n : Nat), K.lookup a = some o ∧ o.cls = .type "tuple" ∧ o.data = .seq its n ∧ its.size ≤ sizeLine ∧ Vals xs its.toList
def absV : Value → Option V
  | .none => some .non
  | .bool b => some (.bl b)
  | .int i _ => some (.int i)
  | .str x _ => some (.str x)
  | .bytes b _ => some (.byt b)
  | .float b _ => some (.flt b)
  | .ref a => some (.ref a)
  | .type n => some (.ty n)
  | _ => none
theorem RelV.abs {x : V} {u : Value} (r : RelV x u) : absV u = some x := by
  cases x with
  | non => cases r; rfl
  | bl _ => cases r; rfl
  | int _ => obtain ⟨t, rfl⟩ := r; rfl
  | str _ => obtain ⟨t, rfl⟩ := r; rfl
  | byt _ => obtain ⟨t, rfl⟩ := r; rfl
  | flt _ => obtain ⟨t, rfl⟩ := r; rfl
  | ref _ => cases r; rfl
  | ty _ => cases r; rfl
theorem RelV.inj {x y : V} {u : Value} (r : RelV x u) (q : RelV y u) : x = y := Option.some.inj (r.abs.symm.trans q.abs)
theorem Vals.inj : ∀ {xs ys : List V} {us : List Value}, Vals xs us → Vals ys us → xs = ys
  | _, _, _, .nil, .nil => rfl
  | _, _, _, .cons r t, .cons r' t' => by rw [r.inj r', Vals.inj t t']
section
variable {X : Cx} {pins : List (Addr × Obj)} {σ : St} {H : Hp} {s : Shared} {a : Addr} {xs ys : List V}
theorem SqL.of {K : PySem.W.Frag} (h : H a = some (.lst xs)) : SqL K H a xs := .inl (.inl h)
theorem SqT.of {K : PySem.W.Frag} (h : H a = some (.tup xs)) : SqT K H a xs := .inl (.inl h)
theorem Inv.list (I : Inv X pins σ H s) (h : SqL X.K H a xs) : ∃ its : List Value, Vals xs its ∧ PlainL s.heap a its.toArray ∧ xs.length ≤ sizeLine := by
  rcases h with h | ⟨o, its, n, hk, hc, hd, hs, hz, r⟩
  · obtain ⟨z, its, n, r, e⟩ := h.ok I.hok
    exact ⟨its, r, ⟨_, n, e, rfl, rfl, rfl⟩, z⟩
  · refine ⟨its.toList, r, ⟨o, n, I.kIn a o hk, hc, hd, by simpa using hs⟩, ?_⟩
    have e := r.length
    simp only [Array.length_toList] at e
    omega
theorem Inv.tuple (I : Inv X pins σ H s) (h : SqT X.K H a xs) : ∃ its : List Value, Vals xs its ∧ IsTup s.heap a its.toArray ∧ xs.length ≤ sizeLine := by
  rcases h with h | ⟨o, its, n, hk, hc, hs, hz, r⟩
  · obtain ⟨z, its, r, p⟩ := h.ok I.hok
    exact ⟨its, r, p, z⟩
  · refine ⟨its.toList, r, ⟨o, I.kIn a o hk, hc, n, by simpa using hs⟩, ?_⟩
    have e := r.length
    simp only [Array.length_toList] at e
    omega
theorem Inv.list_inj (I : Inv X pins σ H s) (h : SqL X.K H a xs) (h' : SqL X.K H a ys) : xs = ys := by
  obtain ⟨its, r, ⟨o, n, e, _, _, d⟩, _⟩ := I.list h
  obtain ⟨its', r', ⟨o', n', e', _, _, d'⟩, _⟩ := I.list h'
  rw [e] at e'; cases e'
  rw [d] at d'
  injection d' with d1 _
  have : its = its' := by simpa using congrArg Array.toList d1
  subst this
  exact r.inj r'
theorem Inv.tuple_inj (I : Inv X pins σ H s) (h : SqT X.K H a xs) (h' : SqT X.K H a ys) : xs = ys := by
  obtain ⟨its, r, ⟨o, e, _, n, d⟩, _⟩ := I.tuple h
  obtain ⟨its', r', ⟨o', e', _, n', d'⟩, _⟩ := I.tuple h'
  rw [e] at e'; cases e'
  rw [d] at d'
  injection d' with d1 _
  have : its = its' := by simpa using congrArg Array.toList d1
  subst this
  exact r.inj r'
end
/-! ### another wish about exceptions -/
abbrev Cx.wish (X : Cx) (E : Value → Shared → Prop) : Cx := { X with xe := E }
/-- no exception leaves -/
abbrev Cx.nox (X : Cx) : Cx := X.wish fun _ _ => False
theorem Cx.Ok.wish {X : Cx} (ok : X.Ok) (E : Value → Shared → Prop) : (X.wish E).Ok :=
  ⟨ok.mod, ok.kind, ok.glob, ok.blt, ok.above, ok.inj, ok.has, ok.cab, ok.hd, ok.frames, ok.stk, ok.exf, ok.bs, ok.bsz, ok.noex, ok.exfs, ok.funs, ok.frf⟩
theorem Cx.Ok.unwish {X : Cx} {E : Value → Shared → Prop} (ok : (X.wish E).Ok) : X.Ok :=
  ⟨ok.mod, ok.kind, ok.glob, ok.blt, ok.above, ok.inj, ok.has, ok.cab, ok.hd, ok.frames, ok.stk, ok.exf, ok.bs, ok.bsz, ok.noex, ok.exfs, ok.funs, ok.frf⟩
section
variable {X : Cx} {pins : List (Addr × Obj)} {σ : St} {H : Hp} {s : Shared} {E : Value → Shared → Prop}
theorem Inv.wish (I : Inv X pins σ H s) (E : Value → Shared → Prop) : Inv (X.wish E) pins σ H s := ⟨I.ok.wish E, I.os, I.bare, I.base, I.loc, I.cell, I.free, I.freeC, I.pin, I.hok, I.len⟩
theorem Inv.unwish (I : Inv (X.wish E) pins σ H s) : Inv X pins σ H s := ⟨I.ok.unwish, I.os, I.bare, I.base, I.loc, I.cell, I.free, I.freeC, I.pin, I.hok, I.len⟩
theorem SP.unwish {D : Ends} {f : Flow} {s' : Shared} (h : SP (X.wish E) pins D f s') : SP X pins D f s' := by
  cases f with
  | next => obtain ⟨σ', H', I, q⟩ := h; exact ⟨σ', H', I.unwish, q⟩
  | brk => obtain ⟨σ', H', I, q⟩ := h; exact ⟨σ', H', I.unwish, q⟩
  | cont => obtain ⟨σ', H', I, q⟩ := h; exact ⟨σ', H', I.unwish, q⟩
  | ret u => obtain ⟨v, σ', H', I, r, q⟩ := h; exact ⟨v, σ', H', I.unwish, r, q⟩
theorem PSs.nox {st : List Stmt} {t : TS} (h : PSs X.nox st t) : PSs X st t := fun pins s σ H D I hw =>
  wpAny_mono (h pins s σ H D (I.wish _) hw) (fun _ _ q => q.unwish) fun _ _ z => False.elim z
end
/-! ### blocks and small statements -/
section
variable {X : Cx} {st : Stmt} {rest : List Stmt} {t u : TS} {e : Expr} {te : TE} {pos : Pos}
def tNext : TS := fun D σ H => D.nx σ H
def tSeq (t u : TS) : TS := fun D σ H => t { D with nx := u D } σ H
theorem pss_nil : PSs X [] tNext := fun _ _ σ H _ I h => wpAny_execs_nil ⟨σ, H, I, h⟩
theorem pss_cons (h1 : PS X st t) (h2 : PSs X rest u) : PSs X (st :: rest) (tSeq t u) := by
  intro pins s σ H D I h
  refine wpAny_execs_cons (thn (h1 pins s σ H { D with nx := u D } I h) fun f s1 q => ?_)
  cases f with
  | next =>
    obtain ⟨σ', H', I', q⟩ := q
    exact h2 pins s1 σ' H' D I' q
  | ret v => exact q
  | brk => exact q
  | cont => exact q
theorem pss_one (h1 : PS X st t) : PSs X [st] t := by
  intro pins s σ H D I h
  refine wpAny_execs_cons (thn (h1 pins s σ H D I h) fun f s1 q => ?_)
  cases f with
  | next => exact wpAny_execs_nil q
  | ret v => exact q
  | brk => exact q
  | cont => exact q
/-- in a def's body nothing is shown -/
theorem Inv.quiet {pins : List (Addr × Obj)} {σ : St} {H : Hp} {s : Shared} (I : Inv X pins σ H s) : interactive X.env = false := by simp [interactive, I.ok.kind]
/-- an expression whose value is dropped -/
def tDrop (te : TE) : TS := fun D σ H => te σ H fun _ H1 => D.nx σ H1
theorem ps_expr (he : PE X e te) (hs : swapsWith e none pos.line X.env = pure false := by rfl) : PS X (.Expr e pos) (tDrop te) := by
  intro pins s σ H D I h
  exact wpAny_Expr_any (thn (he pins s σ H _ I h) fun v s1 ⟨x, H1, I1, r1, q1⟩ => ⟨σ, H1, I1, q1⟩) I.quiet hs
def tRet (te : TE) : TS := fun D σ H => te σ H D.rt
theorem ps_ret (he : PE X e te) : PS X (.Return (some e) pos) (tRet te) := by
  intro pins s σ H D I h
  exact wpAny_Return_some (thn (he pins s σ H _ I h) fun v s1 ⟨x, H1, I1, r1, q1⟩ => ⟨x, σ, H1, I1, r1, q1⟩)
def tIfS (c : TT) (t u : TS) : TS := fun D σ H => c σ H fun b H1 => if b = true then t D σ H1 else u D σ H1
theorem ps_if {c : Expr} {a b : List Stmt} {tc : TT} (hc : PT X c tc) (ha : PSs X a t) (hb : PSs X b u) : PS X (.If c a b pos) (tIfS tc t u) := by
  intro pins s σ H D I h
  refine wpAny_If (thn (hc pins s σ H _ I h) fun d s1 ⟨H1, I1, q1⟩ => ?_)
  cases d with
  | true => exact ha pins s1 σ H1 D I1 q1
  | false => exact hb pins s1 σ H1 D I1 q1
/-- code that the proof never comes to -/
def tNever : TS := fun _ _ _ => False
theorem pss_never {sts : List Stmt} : PSs X sts tNever := fun _ _ _ _ _ _ h => h.elim
end
/-! ### targets -/
abbrev TG := V → St → Hp → (St → Hp → Prop) → Prop
abbrev TGs := List V → St → Hp → (St → Hp → Prop) → Prop
def PG (X : Cx) (target : Expr) (t : TG) : Prop :=
  ∀ (pins : List (Addr × Obj)) (s : Shared) (σ : St) (H : Hp) (v : V) (u : Value) (Q : St → Hp → Prop), Inv X pins σ H s → RelV v u → t v σ H Q →
    wpAny (model X.prog X.w) X.A (assign target X.env u) (fun _ s' => ∃ σ' H', Inv X pins σ' H' s' ∧ Q σ' H') X.xe s
/-- several targets, one after another -/
def PGs (X : Cx) (ts : List Expr) (t : TGs) : Prop :=
  ∀ (pins : List (Addr × Obj)) (s : Shared) (σ : St) (H : Hp) (vs : List V) (us : List Value) (Q : St → Hp → Prop), Inv X pins σ H s → Vals vs us → t vs σ H Q →
    wpAny (model X.prog X.w) X.A (assignInOrder ((assignEach ts X.env).map (·.2)) us) (fun _ s' => ∃ σ' H', Inv X pins σ' H' s' ∧ Q σ' H') X.xe s
/-- o[i] = v, by values -/
abbrev TSet := V → V → V → Hp → (Hp → Prop) → Prop
def PSet (X : Cx) (t : TSet) : Prop :=
  ∀ (pins : List (Addr × Obj)) (s : Shared) (σ : St) (H : Hp) (o i v : V) (ov iv u : Value) (Q : Hp → Prop), Inv X pins σ H s → RelV o ov → RelV i iv → RelV v u → t o i v H Q →
    wpAny (model X.prog X.w) X.A (setItem ov iv u) (fun _ s' => ∃ H', Inv X pins σ H' s' ∧ Q H') X.xe s
/-- a op= b, by values -/
abbrev TIp := V → V → Hp → VK → Prop
def PIp (X : Cx) (op : Operator) (t : TIp) : Prop :=
  ∀ (pins : List (Addr × Obj)) (s : Shared) (σ : St) (H : Hp) (x y : V) (v u : Value) (Q : VK), Inv X pins σ H s → RelV x v → RelV y u → t x y H Q →
    wpAny (model X.prog X.w) X.A (inplaceOp op v u) (EP X pins σ Q) X.xe s
section
variable {X : Cx} {pos : Pos}
def gName (i : Nat) : TG := fun v σ H Q => Q (σ.set i (some v)) H
theorem pg_name {i : Nat} {x : Str} (hN : X.N.Nodup) (hi : X.N[i]? = some x) (hx : Loc X.env.scope x) (hf : X.fn x = true ∨ X.env.scope.names.lookup x = some .local := by first | exact .inl rfl | exact .inr rfl | assumption) : PG X (.Name x pos) (gName i) := by
  intro pins s σ H v u Q I r h
  exact wpAny_assign_Name (store_ok I hN hi hx r (fun s' I' => ⟨_, H, I', h⟩) hf)
def gNil : TGs := fun vs σ H Q => vs = [] ∧ Q σ H
def gCons (t : TG) (u : TGs) : TGs := fun vs σ H Q => ∃ v r, vs = v :: r ∧ t v σ H fun σ' H' => u r σ' H' Q
theorem pgs_nil : PGs X [] gNil := by
  intro pins s σ H vs us Q I r h
  obtain ⟨e, h⟩ := h
  subst e
  cases r
  exact assignInOrder_nil ⟨σ, H, I, h⟩
theorem pgs_cons {e : Expr} {es : List Expr} {t : TG} {u : TGs} (h1 : PG X e t) (h2 : PGs X es u)
    (hs : (assignEach (e :: es) X.env).map (·.2) = assign e X.env :: (assignEach es X.env).map (·.2) := by rfl) : PGs X (e :: es) (gCons t u) := by
  intro pins s σ H vs us Q I r h
  obtain ⟨v, vr, e1, h⟩ := h
  subst e1
  cases r with
  | cons r rr =>
    rw [hs]
    refine assignInOrder_cons (thn (h1 pins s σ H _ _ _ I r h) fun _ s1 ⟨σ1, H1, I1, q1⟩ => ?_)
    exact h2 pins s1 σ1 H1 _ _ Q I1 rr q1
/-- (a, b, ..) = a tuple of that length -/
def gTup (K : PySem.W.Frag) (n : Nat) (t : TGs) : TG := fun v σ H Q => ∃ a xs, v = .ref a ∧ SqT K H a xs ∧ xs.length = n ∧ t xs σ H Q
theorem pg_tup {es : List Expr} {k : Nat} {t : TGs} {n : Nat} (hc : X.calm = true) (h : PGs X es t)
    (hn : (assignEach es X.env).length = n := by rfl) (hst : (assignEach es X.env).findIdx? (·.1) = none := by rfl) : PG X (.Tuple es k pos) (gTup X.K n t) := by
  intro pins s σ H v u Q I r hw
  obtain ⟨a, xs, e1, hq, hl, hw⟩ := hw
  subst e1
  cases r
  obtain ⟨its, rv, ht, hz⟩ := I.tuple hq
  refine assign_Tuple_tuple (I.ok.hd hc) ht (by simp [hn, ← hl, rv.length]) hst fun h' hx => ?_
  have I1 : Inv X pins σ H { s with heap := h' } := I.kept (t' := s.toks) fun b o e => hx b o (Nat.ne_of_lt (Heap.lt_size e)) e
  exact h pins _ σ H xs _ Q I1 (by simpa using rv) hw
/-- o[i] = .. -/
def gSub (to ti : TE) (t : TSet) : TG := fun v σ H Q => to σ H fun o H1 => ti σ H1 fun i H2 => t o i v H2 fun H3 => Q σ H3
theorem pg_sub {o i : Expr} {to ti : TE} {t : TSet} (ho : PE X o to) (hi : PE X i ti) (hs : PSet X t)
    (ha : ∀ v, assign (.Subscript o i pos) X.env v = (do
      let ov ← holding [v] (eval o X.env)
      let iv ← holding [v, ov] (eval i X.env)
      standAt pos
      holding [v, ov, iv] (setItem ov iv v)
      release [v, ov, iv] []) := by intro _; rfl) : PG X (.Subscript o i pos) (gSub to ti t) := by
  intro pins s σ H v u Q I r h
  rw [ha]
  refine wpAny_bind (wpAny_holding (thn (ho pins s σ H _ I h) fun ov s1 ⟨x, H1, I1, r1, q1⟩ => ?_))
  refine wpAny_bind (wpAny_holding (thn (hi pins s1 σ H1 _ I1 q1) fun iv s2 ⟨y, H2, I2, r2, q2⟩ => ?_))
  refine wpAny_bind (wpAny_standAt (wpAny_bind (wpAny_holding (thn (hs pins s2 σ H2 x y v ov iv u _ I2 r1 r2 r q2) fun _ s3 ⟨H3, I3, q3⟩ => ?_))))
  exact wpAny_release ⟨σ, H3, I3, q3⟩
/-- target = value -/
def tAsg (te : TE) (g : TG) : TS := fun D σ H => te σ H fun x H1 => g x σ H1 D.nx
theorem ps_asg {tg e : Expr} {te : TE} {g : TG} (he : PE X e te) (hg : PG X tg g) (hs : swapsWithSole [tg] e pos.line X.env = pure false := by rfl) (hw : swappedStores [tg] e X.env = pure none := by rfl)
    (h1 : (assignEach [tg] X.env).map (·.2) = [assign tg X.env] := by rfl) : PS X (.Assign [tg] e pos) (tAsg te g) := by
  intro pins s σ H D I h
  refine wpAny_Assign_stores (thn (he pins s σ H _ I h) fun v s1 ⟨x, H1, I1, r1, q1⟩ => ?_) hs hw
  rw [h1]
  exact thn (hg pins s1 σ H1 x v _ I1 r1 q1) fun _ s2 q => q
/-- name = value -/
theorem ps_set {i : Nat} {x : Str} {e : Expr} {te : TE} {pos' : Pos} (hN : X.N.Nodup) (hi : X.N[i]? = some x) (hx : Loc X.env.scope x) (he : PE X e te) (hs : swapsWith e (some (.Name x pos')) pos.line X.env = pure false := by rfl) (hf : X.fn x = true ∨ X.env.scope.names.lookup x = some .local := by first | exact .inl rfl | exact .inr rfl | assumption) :
    PS X (.Assign [.Name x pos'] e pos) (tAsg te (gName i)) := by
  intro pins s σ H D I h
  refine wpAny_Assign_Name (thn (he pins s σ H _ I h) fun v s1 ⟨y, H1, I1, r1, q1⟩ => ?_) hs
  exact store_ok I1 hN hi hx r1 (fun s2 I2 => ⟨_, H1, I2, q1⟩) hf
/-- name op= e -/
def tAug (i : Nat) (te : TE) (ti : TIp) : TS := fun D σ H => ∃ x, σ[i]? = some (some x) ∧ te σ H fun y H1 => ti x y H1 fun z H2 => D.nx (σ.set i (some z)) H2
theorem ps_aug {i : Nat} {x : Str} {e : Expr} {te : TE} {op : Operator} {ti : TIp} {pos' : Pos} (hN : X.N.Nodup) (hi : X.N[i]? = some x) (hx : Loc X.env.scope x) (he : PE X e te) (ho : PIp X op ti) (hf : X.fn x = true ∨ X.env.scope.names.lookup x = some .local := by first | exact .inl rfl | exact .inr rfl | assumption) :
    PS X (.AugAssign (.Name x pos') op e pos) (tAug i te ti) := by
  intro pins s σ H D I h
  obtain ⟨v, e1, h⟩ := h
  obtain ⟨m, hn, hl⟩ := I.loc
  have vis : Vis X.env.scope x := by rcases hx with k | k; exact .inl k; exact .inr (.inl k)
  obtain ⟨u, r, l⟩ := hl i x v hi e1 vis
  refine wpAny_AugAssign_Name ?_
  have go : wpAny (model X.prog X.w) X.A (eval e X.env) (fun w s₂ => wpAny (model X.prog X.w) X.A (inplaceOp op u w) (fun r s₃ => wpAny (model X.prog X.w) X.A (storeName X.env x r) (fun _ => SP X pins D .next) X.xe s₃) X.xe s₂) X.xe s := by
    refine thn (he pins s σ H _ I h) fun w s1 ⟨y, H1, I1, r1, q1⟩ => ?_
    refine thn (ho pins s1 σ H1 v y u w _ I1 r r1 q1) fun z s2 ⟨zv, H2, I2, r2, q2⟩ => ?_
    exact store_ok I2 hN hi hx r2 (fun s3 I3 => ⟨_, H2, I3, q2⟩) hf
  rcases l with ⟨hk, hm⟩ | ⟨hk, c, hc, hcell⟩
  · exact wpAny_loadName_local I.ok.kind hk hn hm go
  · rcases hk with hk | hk
    · exact wpAny_loadName_cell I.ok.kind hk hc hcell go
    · rcases hx with k | k
      · have : X.env.scope.names.lookup x = some .free := hk
        rw [k] at this; cases this
      · have : X.env.scope.names.lookup x = some .free := hk
        rw [k] at this; cases this
/-- ints -/
def ipI (f : Int → Int → Int) : TIp := fun x y H Q => ∃ i j, x = .int i ∧ y = .int j ∧ Q (.int (f i j)) H
theorem ip_add : PIp X .Add (ipI fun i j => i + j) := by
  intro pins s σ H x y v u Q I r1 r2 h
  obtain ⟨i, j, e1, e2, q⟩ := h
  subst e1; subst e2
  obtain ⟨t, rfl⟩ := r1
  obtain ⟨t', rfl⟩ := r2
  exact iadd_int ⟨.int _, H, I.tok _, ⟨_, rfl⟩, q⟩
end
/-! ### while -/
section
variable {X : Cx} {pos : Pos}
/-- the invariant W with its measure -/
def tWhile (c : TT) (tb : TS) : TS := fun D σ H => ∃ W : Nat → St → Hp → Prop, (∃ m, W m σ H) ∧ ∀ m σ H, W m σ H →
  c σ H fun b H1 => if b = true then ∃ N : St → Hp → Prop, (∀ σ' H', N σ' H' → ∃ m', m' < m ∧ W m' σ' H') ∧ tb { D with nx := N, ct := N, bk := D.nx } σ H1 else D.nx σ H1
theorem ps_while {c : Expr} {body : List Stmt} {tc : TT} {tb : TS} (hp : PassesOwn (model X.prog X.w) X.A X.env X.xe) (hc : PT X c tc) (hb : PSs X body tb) : PS X (.While c body [] pos) (tWhile tc tb) := by
  intro pins s σ H D I h
  obtain ⟨W, ⟨m0, w0⟩, turn⟩ := h
  refine wpAny_While (codeAny_whileLoop (fun n s' => ∃ σ' H', Inv X pins σ' H' s' ∧ W n σ' H') ?_ m0 ⟨σ, H, I, w0⟩)
  rintro n s1 ⟨σ1, H1, I1, w1⟩
  refine wpAny_passesOwn hp (thn (hc pins s1 σ1 H1 _ I1 (turn n σ1 H1 w1)) fun b s2 ⟨H2, I2, q2⟩ => ?_)
  cases b with
  | true =>
    obtain ⟨N, hN, q2⟩ := q2
    rw [if_pos rfl]
    refine wpAny_passesOwn hp (thn (hb pins s2 σ1 H2 _ I2 q2) fun f s3 q3 => ?_)
    cases f with
    | next =>
      obtain ⟨σ3, H3, I3, n3⟩ := q3
      obtain ⟨m', hm, w3⟩ := hN σ3 H3 n3
      exact ⟨m', hm, σ3, H3, I3, w3⟩
    | cont =>
      obtain ⟨σ3, H3, I3, n3⟩ := q3
      obtain ⟨m', hm, w3⟩ := hN σ3 H3 n3
      exact ⟨m', hm, σ3, H3, I3, w3⟩
    | brk => exact q3
    | ret v => exact q3
  | false =>
    rw [if_neg Bool.false_ne_true]
    exact wpAny_execs_nil ⟨σ1, H2, I2, q2⟩
end
/-! ### what a loop or a comprehension walks -/
/-- at turn i: it yields x (the heap may grow), or it stops -/
structure It where
  go : Nat → Hp → Prop
  yld : Nat → Hp → V → Hp → Prop
  stop : Nat → Hp → Prop
/-- the iterator's own objects may turn: they are not the frame's, not pinned, younger than the entry (or a comprehension's own) -/
def FpOk (X : Cx) (pins : List (Addr × Obj)) (H : Hp) (b : Addr) : Prop :=
  H b = none ∧ b ≠ X.env.locals ∧ b ∉ X.fs ∧ (b ∈ X.ex ∨ X.s_0.heap.objs.size ≤ b) ∧ (∀ x c, X.env.cells.lookup x = some c → c ≠ b) ∧ ∀ p ∈ X.pn ++ pins, p.1 ≠ b
theorem Inv.fpOk {X : Cx} {pins : List (Addr × Obj)} {σ : St} {H H' : Hp} {s : Shared} {b : Addr} (I : Inv X pins σ H s) (hb : s.heap.objs.size ≤ b) (hn : H' b = none) : FpOk X pins H' b := by
  refine ⟨hn, Nat.ne_of_gt (Nat.lt_of_lt_of_le I.lt hb), I.nofs hb, .inr (Nat.le_trans I.sz hb), fun x c e z => ?_, fun p hp z => ?_⟩
  · obtain ⟨v, q⟩ := I.cell x c e
    exact absurd (Nat.lt_of_lt_of_le q.lt (by rw [z]; exact hb)) (Nat.lt_irrefl _)
  · exact absurd (Nat.lt_of_lt_of_le (Heap.lt_size (I.pin p hp).1) (by rw [z]; exact hb)) (Nat.lt_irrefl _)
structure Turn (P : Program) (w : World) (K : PySem.W.Frag) (tg : Expr) (J : It) (fp : List Addr) (it : Addr) (tn : Nat → Heap → Prop) : Prop where
  mem : it ∈ fp
  obj : ∀ i h, tn i h → ∀ b ∈ fp, ∃ o, h.get? b = some o ∧ ∀ v, o.data ≠ .cell v
  keep : ∀ i h h', tn i h → (∀ b ∈ fp, ∀ o, h.get? b = some o → h'.get? b = some o) → tn i h'
  item : ∀ (X : Cx), X.prog = P → X.w = w → X.K = K → X.calm = true → ∀ (i : Nat) (pins : List (Addr × Obj)) (s : Shared) (σ : St) (H : Hp) (E : Value → Shared → Prop), Inv X pins σ H s → (∀ b ∈ fp, FpOk X pins H b) → tn i s.heap → J.go i H →
    wpAny (model P w) X.A (pyNext (.ref it)) (fun r s1 => ∃ u, r = some u ∧
      wpAny (model P w) X.A (letOwnedTupleGo tg (.ref it) u) (fun _ s2 => ∃ x H', Inv X pins σ H' s2 ∧ RelV x u ∧ J.yld i H x H' ∧ tn (i + 1) s2.heap ∧ ∀ b ∈ fp, H' b = none) E s1) E s
  done : ∀ (X : Cx), X.prog = P → X.w = w → X.K = K → X.calm = true → ∀ (i : Nat) (pins : List (Addr × Obj)) (s : Shared) (σ : St) (H : Hp) (E : Value → Shared → Prop), Inv X pins σ H s → (∀ b ∈ fp, FpOk X pins H b) → tn i s.heap → J.stop i H →
    wpAny (model P w) X.A (pyNext (.ref it)) (fun r s1 => r = none ∧ Inv X pins σ H s1) E s
  self : ∀ (A : Around) (i : Nat) (s : Shared) (Q : Value → Shared → Prop) (E : Value → Shared → Prop), tn i s.heap → Q (.ref it) s → wpAny (model P w) A (pyIter (.ref it)) Q E s
abbrev TI := St → Hp → (It → Hp → Prop) → Prop
/-- an iterator has come -/
def PIE (X : Cx) (pins : List (Addr × Obj)) (σ : St) (tg : Expr) (R : It → Hp → Prop) (itv : Value) (s2 : Shared) : Prop :=
  ∃ (it : Addr) (fp : List Addr) (tn : Nat → Heap → Prop) (J : It) (H' : Hp), itv = .ref it ∧ Inv X pins σ H' s2 ∧ Turn X.prog X.w X.K tg J fp it tn ∧ tn 0 s2.heap ∧ (∀ b ∈ fp, FpOk X pins H' b) ∧ R J H'
def PI (X : Cx) (tg iter : Expr) (wi : TI) : Prop :=
  ∀ (pins : List (Addr × Obj)) (s : Shared) (σ : St) (H : Hp) (R : It → Hp → Prop), Inv X pins σ H s → wi σ H R →
    wpAny (model X.prog X.w) X.A (eval iter X.env) (fun v s1 => wpAny (model X.prog X.w) X.A (pyIter v) (PIE X pins σ tg R) X.xe s1) X.xe s
/-- the step ahead of the store is nothing for an iterator that keeps no tuple -/
theorem go_of {M : Model} {A : Around} {E : Value → Shared → Prop} {s : Shared} {tg : Expr} {it : Addr} {u : Value} {o : Obj} {n : String} {vs : Array Value} {Q : Unit → Shared → Prop} (ho : s.heap.get? it = some o) (hc : o.cls = .type n) (hd : o.data = .fields vs)
    (hn : ["enumerate", "zip", "dict_itemiterator", "dict_reverseitemiterator", "odict_iterator", "itertools.zip_longest", "itertools.pairwise"].contains n = false) (hQ : Q () s) : wpAny M A (letOwnedTupleGo tg (.ref it) u) Q E s := by
  unfold letOwnedTupleGo
  cases tg <;> first
    | exact wpAny_pure hQ
    | (cases u <;> first
        | exact wpAny_pure hQ
        | (refine wpAny_bind (wpAny_load ho ?_)
           rw [hc, hd]
           show wpAny M A (if (["enumerate", "zip", "dict_itemiterator", "dict_reverseitemiterator", "odict_iterator", "itertools.zip_longest", "itertools.pairwise"].contains n && vs[0]? == some (rawInt _)) = true then _ else _) Q E s
           rw [if_neg (by intro h; rw [hn, Bool.false_and] at h; cases h)]
           exact wpAny_pure hQ))
/-- the list at a, as it stands at each turn (a loop may append to it) -/
def Itl (K : PySem.W.Frag) (a : Addr) : It :=
  ⟨fun i H => ∃ xs x, SqL K H a xs ∧ xs[i]? = some x, fun i H x H' => H' = H ∧ ∀ xs, SqL K H a xs → xs[i]? = some x, fun i H => ∃ xs, SqL K H a xs ∧ xs.length ≤ i⟩
def Itt (K : PySem.W.Frag) (a : Addr) : It :=
  ⟨fun i H => ∃ xs x, SqT K H a xs ∧ xs[i]? = some x, fun i H x H' => H' = H ∧ ∀ xs, SqT K H a xs → xs[i]? = some x, fun i H => ∃ xs, SqT K H a xs ∧ xs.length ≤ i⟩
theorem turn_list {P : Program} {w : World} {K : PySem.W.Frag} {tg : Expr} (a it : Addr) : Turn P w K tg (Itl K a) [it] it (fun i h => h.IsListIter it a i) where
  mem := by simp
  obj := fun i h st b hb => by
    have e : b = it := by simpa using hb
    subst e
    obtain ⟨o, e, c, d⟩ := st
    exact ⟨o, e, fun v z => by rw [d] at z; cases z⟩
  keep := fun i h h' st k => st.at fun o e => k it (by simp) o e
  item := by
    intro X hP hw hK hc i pins s σ H E I hf st hg
    subst hP hw hK
    obtain ⟨xs, x, hq, hx⟩ := hg
    obtain ⟨its, rv, p, hz⟩ := I.list hq
    obtain ⟨u, hu, ru⟩ := rv.get hx
    obtain ⟨f0, f1, f2, f3, f4, f5⟩ := hf it (by simp)
    refine wpAny_pyNext_list_item st p.isList (x := u) (by simpa using hu) fun h' st' sb => ?_
    have I1 : Inv X pins σ H { s with heap := h' } := I.turned (t' := s.toks) (fun b o hb e => (sb.2 b hb).trans e) f0 f1 f3 f4 f5
    obtain ⟨o, e, c, d⟩ := id st'
    exact ⟨u, rfl, go_of (s := { s with heap := h' }) e c d (by decide) ⟨x, H, I1, ru, ⟨rfl, fun ys hy => by rw [I.list_inj hy hq]; exact hx⟩, st', fun b hb => (hf b hb).1⟩⟩
  done := by
    intro X hP hw hK hc i pins s σ H E I hf st hg
    subst hP hw hK
    obtain ⟨xs, hq, hx⟩ := hg
    obtain ⟨its, rv, p, hz⟩ := I.list hq
    obtain ⟨f0, f1, f2, f3, f4, f5⟩ := hf it (by simp)
    have hl := rv.length
    exact wpAny_pyNext_list_end (I.ok.hd hc) st p.isList (by simp; omega) fun h' eb => ⟨rfl, I.turned (t' := s.toks) (fun b o hb e => eb b o hb e) f0 f1 f3 f4 f5⟩
  self := fun _ _ _ _ _ st h => wpAny_pyIter_listiter st h
theorem turn_tuple {P : Program} {w : World} {K : PySem.W.Frag} {tg : Expr} (a it : Addr) : Turn P w K tg (Itt K a) [it] it (fun i h => h.IsTupleIter it a i) where
  mem := by simp
  obj := fun i h st b hb => by
    have e : b = it := by simpa using hb
    subst e
    obtain ⟨o, e, c, d⟩ := st
    exact ⟨o, e, fun v z => by rw [d] at z; cases z⟩
  keep := fun i h h' st k => st.at fun o e => k it (by simp) o e
  item := by
    intro X hP hw hK hc i pins s σ H E I hf st hg
    subst hP hw hK
    obtain ⟨xs, x, hq, hx⟩ := hg
    obtain ⟨its, rv, p, hz⟩ := I.tuple hq
    obtain ⟨u, hu, ru⟩ := rv.get hx
    obtain ⟨f0, f1, f2, f3, f4, f5⟩ := hf it (by simp)
    refine wpAny_pyNext_tuple_item st (show s.heap.IsTuple a its.toArray from p) (x := u) (by simpa using hu) fun h' st' sb => ?_
    have I1 : Inv X pins σ H { s with heap := h' } := I.turned (t' := s.toks) (fun b o hb e => (sb.2 b hb).trans e) f0 f1 f3 f4 f5
    obtain ⟨o, e, c, d⟩ := id st'
    exact ⟨u, rfl, go_of (s := { s with heap := h' }) e c d (by decide) ⟨x, H, I1, ru, ⟨rfl, fun ys hy => by rw [I.tuple_inj hy hq]; exact hx⟩, st', fun b hb => (hf b hb).1⟩⟩
  done := by
    intro X hP hw hK hc i pins s σ H E I hf st hg
    subst hP hw hK
    obtain ⟨xs, hq, hx⟩ := hg
    obtain ⟨its, rv, p, hz⟩ := I.tuple hq
    obtain ⟨f0, f1, f2, f3, f4, f5⟩ := hf it (by simp)
    have hl := rv.length
    exact wpAny_pyNext_tuple_end (I.ok.hd hc) st (show s.heap.IsTuple a its.toArray from p) (by simp; omega) fun h' eb => ⟨rfl, I.turned (t' := s.toks) (fun b o hb e => eb b o hb e) f0 f1 f3 f4 f5⟩
  self := fun _ _ _ _ _ st h => wpAny_pyIter_tupleiter st h
end L2
namespace L2
open PySem PySem.Spec PyProof.Rows
section
variable {X : Cx} {tg : Expr}
def iList (K : PySem.W.Frag) (tl : TE) : TI := fun σ H R => tl σ H fun x H1 => ∃ a, x = .ref a ∧ (∃ xs, SqL K H1 a xs) ∧ R (Itl K a) H1
def iTup (K : PySem.W.Frag) (tl : TE) : TI := fun σ H R => tl σ H fun x H1 => ∃ a, x = .ref a ∧ (∃ xs, SqT K H1 a xs) ∧ R (Itt K a) H1
theorem pi_list {l : Expr} {tl : TE} (hl : PE X l tl) : PI X tg l (iList X.K tl) := by
  intro pins s σ H R I h
  refine thn (hl pins s σ H _ I h) fun v s1 ⟨x, H1, I1, r1, q1⟩ => ?_
  obtain ⟨a, e, ⟨xs, hq⟩, q⟩ := q1
  subst e
  cases r1
  obtain ⟨its, rv, p, hz⟩ := I1.list hq
  refine wpAny_pyIter_list p.isList ?_
  refine ⟨s1.heap.objs.size, [s1.heap.objs.size], _, _, H1, rfl, I1.kept (t' := s1.toks) fun b o e => Heap.get?_push_of_some _ e, turn_list a _, ⟨_, Heap.get?_push_size _ rfl, rfl, rfl⟩, fun b hb => ?_, q⟩
  have e : b = s1.heap.objs.size := by simpa using hb
  subst e
  exact I1.fpOk (Nat.le_refl _) (I1.hok.fresh (Nat.le_refl _))
theorem pi_tup {l : Expr} {tl : TE} (hl : PE X l tl) : PI X tg l (iTup X.K tl) := by
  intro pins s σ H R I h
  refine thn (hl pins s σ H _ I h) fun v s1 ⟨x, H1, I1, r1, q1⟩ => ?_
  obtain ⟨a, e, ⟨xs, hq⟩, q⟩ := q1
  subst e
  cases r1
  obtain ⟨its, rv, p, hz⟩ := I1.tuple hq
  refine wpAny_pyIter_tuple (show s1.heap.IsTuple a its.toArray from p) ?_
  refine ⟨s1.heap.objs.size, [s1.heap.objs.size], _, _, H1, rfl, I1.kept (t' := s1.toks) fun b o e => Heap.get?_push_of_some _ e, turn_tuple a _, ⟨_, Heap.get?_push_size _ rfl, rfl, rfl⟩, fun b hb => ?_, q⟩
  have e : b = s1.heap.objs.size := by simpa using hb
  subst e
  exact I1.fpOk (Nat.le_refl _) (I1.hok.fresh (Nat.le_refl _))
/-! ### for -/
/-- W: the invariant by the turn and a measure; N: what the body is to reach -/
def tFor (wi : TI) (g : TG) (tb : TS) : TS := fun D σ H => wi σ H fun J H1 => ∃ W : Nat → Nat → St → Hp → Prop, (∃ m, W 0 m σ H1) ∧ ∀ i m σ H, W i m σ H →
  (J.stop i H ∧ D.nx σ H) ∨ (J.go i H ∧ ∃ N : St → Hp → Prop, (∀ σ' H', N σ' H' → ∃ m', m' < m ∧ W (i + 1) m' σ' H') ∧ ∀ x H', J.yld i H x H' → g x σ H' fun σ2 H2 => tb { D with nx := N, ct := N, bk := D.nx } σ2 H2)
/-- the records at fp as they stand -/
def pinsAt (fp : List Addr) (h : Heap) : List (Addr × Obj) := fp.filterMap fun b => (h.get? b).map fun o => (b, o)
theorem mem_pinsAt {fp : List Addr} {h : Heap} {b : Addr} {o : Obj} (hb : b ∈ fp) (e : h.get? b = some o) : (b, o) ∈ pinsAt fp h := List.mem_filterMap.mpr ⟨b, hb, by rw [e]; rfl⟩
theorem of_pinsAt {fp : List Addr} {h : Heap} {p : Addr × Obj} (hp : p ∈ pinsAt fp h) : p.1 ∈ fp ∧ h.get? p.1 = some p.2 := by
  obtain ⟨b, hb, e⟩ := List.mem_filterMap.mp hp
  cases q : h.get? b with
  | none => rw [q] at e; cases e
  | some o =>
    rw [q] at e
    have e' : (b, o) = p := Option.some.inj e
    subst e'
    exact ⟨hb, q⟩
theorem Inv.pinned {pins : List (Addr × Obj)} {σ : St} {H : Hp} {s : Shared} {fp : List Addr} (I : Inv X pins σ H s) (hf : ∀ b ∈ fp, FpOk X pins H b) (ho : ∀ b ∈ fp, ∃ o, s.heap.get? b = some o ∧ ∀ v, o.data ≠ .cell v) : Inv X (pins ++ pinsAt fp s.heap) σ H s :=
  I.pins_of fun p hp => (List.mem_append.mp hp).elim (fun z => I.pin p (List.mem_append_right _ z)) fun z => by
    obtain ⟨hb, e⟩ := of_pinsAt z
    obtain ⟨f0, f1, f2, _⟩ := hf p.1 hb
    obtain ⟨o, e', d⟩ := ho p.1 hb
    rw [e] at e'; cases e'
    exact ⟨e, f0, f1, f2, d⟩
theorem Inv.unpinned {pins pl : List (Addr × Obj)} {σ : St} {H : Hp} {s : Shared} (I : Inv X (pins ++ pl) σ H s) : Inv X pins σ H s := I.pins_of fun p hp => I.pin p (List.mem_append_right _ (List.mem_append_left _ hp))
theorem ps_for {iter : Expr} {body : List Stmt} {wi : TI} {g : TG} {tb : TS} {pos : Pos} (hp : PassesOwn (model X.prog X.w) X.A X.env X.xe) (hc : X.calm = true) (hi : PI X tg iter wi) (hg : PG X tg g) (hb : PSs X body tb)
    (hs : ∀ x, foldedSetIterable iter X.env x = pure x := by intro _; rfl) : PS X (.For tg iter body [] pos) (tFor wi g tb) := by
  intro pins s σ H D I h
  refine wpAny_For (thn (hi pins s σ H _ I h) fun v s1 h1 => thn h1 fun itv s2 h2 => ?_) hs
  obtain ⟨it, fp, tn, J, H2, e, I2, T, st2, f2, W, ⟨m0, w0⟩, turn⟩ := h2
  subst e
  -- what stays true of the iterator's objects through the loop
  have stat : ∀ {H' : Hp}, (∀ b ∈ fp, H' b = none) → ∀ b ∈ fp, FpOk X pins H' b := fun hn b hb => ⟨hn b hb, (f2 b hb).2⟩
  refine codeAny_forLoop_any (fun n s' => ∃ i σ' H', Inv X pins σ' H' s' ∧ tn i s'.heap ∧ (∀ b ∈ fp, H' b = none) ∧ W i n σ' H') ?_ m0 ⟨0, σ, H2, I2, st2, fun b hb => (f2 b hb).1, w0⟩
  rintro n s3 ⟨i, σ3, H3, I3, st3, fr3, w3⟩
  rcases turn i n σ3 H3 w3 with ⟨stop, qn⟩ | ⟨go, N, hN, step⟩
  · refine wpAny_passesOwn hp (thn (T.done X rfl rfl rfl hc i pins s3 σ3 H3 X.xe I3 (stat fr3) st3 stop) fun r s4 ⟨hr, I4⟩ => ?_)
    subst hr
    exact wpAny_execs_nil ⟨σ3, H3, I4, qn⟩
  · refine wpAny_passesOwn hp (thn (T.item X rfl rfl rfl hc i pins s3 σ3 H3 X.xe I3 (stat fr3) st3 go) fun r s4 ⟨u, hr, h4⟩ => ?_)
    subst hr
    refine wpAny_passesOwn hp (thn h4 fun _ s5 ⟨x, H5, I5, r5, y5, st5, fr5⟩ => ?_)
    have I5' := I5.pinned (stat fr5) (T.obj _ _ st5)
    refine wpAny_passesOwn hp (thn (hg _ s5 σ3 H5 x u _ I5' r5 (step x H5 y5)) fun _ s6 ⟨σ6, H6, I6, q6⟩ => ?_)
    refine wpAny_passesOwn hp (thn (hb _ s6 σ6 H6 _ I6 q6) fun f s7 q7 => ?_)
    have again : ∀ {σ7 : St} {H7 : Hp}, Inv X (pins ++ pinsAt fp s5.heap) σ7 H7 s7 → N σ7 H7 → ∃ m, m < n ∧ ∃ i σ' H', Inv X pins σ' H' s7 ∧ tn i s7.heap ∧ (∀ b ∈ fp, H' b = none) ∧ W i m σ' H' := fun {σ7 H7} I7 n7 => by
      obtain ⟨m', hm, w7⟩ := hN σ7 H7 n7
      refine ⟨m', hm, i + 1, σ7, H7, I7.unpinned, T.keep _ _ _ st5 fun b hb o e => (I7.pin (b, o) (List.mem_append_right _ (List.mem_append_right _ (mem_pinsAt hb e)))).1, fun b hb => ?_, w7⟩
      obtain ⟨o, e, d⟩ := T.obj _ _ st5 b hb
      exact (I7.pin (b, o) (List.mem_append_right _ (List.mem_append_right _ (mem_pinsAt hb e)))).2.1
    cases f with
    | next => obtain ⟨σ7, H7, I7, n7⟩ := q7; exact again I7 n7
    | cont => obtain ⟨σ7, H7, I7, n7⟩ := q7; exact again I7 n7
    | brk => obtain ⟨σ7, H7, I7, q7⟩ := q7; exact ⟨σ7, H7, I7.unpinned, q7⟩
    | ret v => obtain ⟨x7, σ7, H7, I7, r7, q7⟩ := q7; exact ⟨x7, σ7, H7, I7.unpinned, r7, q7⟩
end
/-! ### the forms one uses -/
/-- over a list that the body leaves as it is -/
theorem for_list {K : PySem.W.Frag} {a : Addr} {xs : List V} {g : TG} {tb : TS} {D : Ends} {σ : St} {H : Hp} (Pv : Nat → St → Hp → Prop) (h0 : Pv 0 σ H) (hl : ∀ i σ H, i ≤ xs.length → Pv i σ H → SqL K H a xs)
    (hs : ∀ i x σ H, xs[i]? = some x → Pv i σ H → g x σ H fun σ2 H2 => tb { D with nx := Pv (i + 1), ct := Pv (i + 1), bk := D.nx } σ2 H2) (hd : ∀ σ H, Pv xs.length σ H → D.nx σ H) :
    ∃ W : Nat → Nat → St → Hp → Prop, (∃ m, W 0 m σ H) ∧ ∀ i m σ H, W i m σ H →
      ((Itl K a).stop i H ∧ D.nx σ H) ∨ ((Itl K a).go i H ∧ ∃ N : St → Hp → Prop, (∀ σ' H', N σ' H' → ∃ m', m' < m ∧ W (i + 1) m' σ' H') ∧ ∀ x H', (Itl K a).yld i H x H' → g x σ H' fun σ2 H2 => tb { D with nx := N, ct := N, bk := D.nx } σ2 H2) := by
  refine ⟨fun i m σ H => m = xs.length - i ∧ i ≤ xs.length ∧ Pv i σ H, ⟨xs.length, by simp, Nat.zero_le _, h0⟩, ?_⟩
  rintro i m σ H ⟨rfl, hi, p⟩
  have q := hl i σ H hi p
  by_cases hlt : i < xs.length
  · refine .inr ⟨⟨xs, xs[i], q, by simp [hlt]⟩, Pv (i + 1), fun σ' H' p' => ⟨xs.length - (i + 1), by omega, rfl, hlt, p'⟩, fun x H' y => ?_⟩
    obtain ⟨e, y⟩ := y
    subst e
    exact hs i x σ _ (y xs q) p
  · have e : i = xs.length := by omega
    subst e
    exact .inl ⟨⟨xs, q, Nat.le_refl _⟩, hd σ H p⟩
theorem for_tup {K : PySem.W.Frag} {a : Addr} {xs : List V} {g : TG} {tb : TS} {D : Ends} {σ : St} {H : Hp} (Pv : Nat → St → Hp → Prop) (h0 : Pv 0 σ H) (hl : ∀ i σ H, i ≤ xs.length → Pv i σ H → SqT K H a xs)
    (hs : ∀ i x σ H, xs[i]? = some x → Pv i σ H → g x σ H fun σ2 H2 => tb { D with nx := Pv (i + 1), ct := Pv (i + 1), bk := D.nx } σ2 H2) (hd : ∀ σ H, Pv xs.length σ H → D.nx σ H) :
    ∃ W : Nat → Nat → St → Hp → Prop, (∃ m, W 0 m σ H) ∧ ∀ i m σ H, W i m σ H →
      ((Itt K a).stop i H ∧ D.nx σ H) ∨ ((Itt K a).go i H ∧ ∃ N : St → Hp → Prop, (∀ σ' H', N σ' H' → ∃ m', m' < m ∧ W (i + 1) m' σ' H') ∧ ∀ x H', (Itt K a).yld i H x H' → g x σ H' fun σ2 H2 => tb { D with nx := N, ct := N, bk := D.nx } σ2 H2) := by
  refine ⟨fun i m σ H => m = xs.length - i ∧ i ≤ xs.length ∧ Pv i σ H, ⟨xs.length, by simp, Nat.zero_le _, h0⟩, ?_⟩
  rintro i m σ H ⟨rfl, hi, p⟩
  have q := hl i σ H hi p
  by_cases hlt : i < xs.length
  · refine .inr ⟨⟨xs, xs[i], q, by simp [hlt]⟩, Pv (i + 1), fun σ' H' p' => ⟨xs.length - (i + 1), by omega, rfl, hlt, p'⟩, fun x H' y => ?_⟩
    obtain ⟨e, y⟩ := y
    subst e
    exact hs i x σ _ (y xs q) p
  · have e : i = xs.length := by omega
    subst e
    exact .inl ⟨⟨xs, q, Nat.le_refl _⟩, hd σ H p⟩
end L2
namespace L2
open PySem PySem.Spec PyProof.Rows
abbrev R2 := V → V → Hp → VK → Prop
/-- a two-place operation on values: f is binaryOp op, inplaceOp op or compareOp op -/
def OpR (X : Cx) (f : Value → Value → Sem Value) (r : R2) : Prop :=
  ∀ (pins : List (Addr × Obj)) (s : Shared) (σ : St) (H : Hp) (x y : V) (v u : Value) (Q : VK), Inv X pins σ H s → RelV x v → RelV y u → r x y H Q →
    wpAny (model X.prog X.w) X.A (f v u) (EP X pins σ Q) X.xe s
/-- a one-place operation -/
def UnR (X : Cx) (f : Value → Sem Value) (r : V → Hp → VK → Prop) : Prop :=
  ∀ (pins : List (Addr × Obj)) (s : Shared) (σ : St) (H : Hp) (x : V) (v : Value) (Q : VK), Inv X pins σ H s → RelV x v → r x H Q →
    wpAny (model X.prog X.w) X.A (f v) (EP X pins σ Q) X.xe s
/-- a call of a value that is known (a builtin, a type) with values -/
def CallR (X : Cx) (f : Value) (r : List V → Hp → VK → Prop) : Prop :=
  ∀ (pins : List (Addr × Obj)) (s : Shared) (σ : St) (H : Hp) (xs : List V) (us : List Value) (Q : VK), Inv X pins σ H s → Vals xs us → r xs H Q →
    wpAny (model X.prog X.w) X.A (call f us) (EP X pins σ Q) X.xe s
/-- a value's truth -/
def TruR (X : Cx) (r : V → Hp → (Bool → Hp → Prop) → Prop) : Prop :=
  ∀ (pins : List (Addr × Obj)) (s : Shared) (σ : St) (H : Hp) (x : V) (v : Value) (Q : Bool → Hp → Prop), Inv X pins σ H s → RelV x v → r x H Q →
    wpAny (model X.prog X.w) X.A (truthy v) (TP X pins σ Q) X.xe s
def tOp (r : R2) (ta tb : TE) : TE := fun σ H Q => ta σ H fun x H1 => tb σ H1 fun y H2 => r x y H2 Q
def tUn (r : V → Hp → VK → Prop) (ta : TE) : TE := fun σ H Q => ta σ H fun x H1 => r x H1 Q
/-- ints in, under C, and a value out -/
def rI (C : Int → Int → Prop) (g : Int → Int → V) : R2 := fun x y H Q => ∃ i j, x = .int i ∧ y = .int j ∧ C i j ∧ Q (g i j) H
def rI0 (g : Int → Int → V) : R2 := fun x y H Q => ∃ i j, x = .int i ∧ y = .int j ∧ Q (g i j) H
def rU (g : Int → V) : V → Hp → VK → Prop := fun x H Q => ∃ i, x = .int i ∧ Q (g i) H
section
variable {X : Cx} {a b c : Expr} {ta tb tc : TE} {pos : Pos}
theorem binT (ha : PE X a ta) (hb : PE X b tb) {pins : List (Addr × Obj)} {s : Shared} {σ : St} {H : Hp} {R : V → V → Hp → Prop} (I : Inv X pins σ H s)
    (h : ta σ H fun x H1 => tb σ H1 fun y H2 => R x y H2) {Q : Value → Shared → Prop} {f : Value → Value → Sem Value}
    (hf : ∀ v u s2 x y H2, Inv X pins σ H2 s2 → RelV x v → RelV y u → R x y H2 → wpAny (model X.prog X.w) X.A (f v u) Q X.xe s2) :
    wpAny (model X.prog X.w) X.A (eval a X.env) (fun v s₁ => wpAny (model X.prog X.w) X.A (eval b X.env) (fun u s₂ => wpAny (model X.prog X.w) X.A (f v u) Q X.xe s₂) X.xe s₁) X.xe s := by
  refine thn (ha pins s σ H _ I h) fun v s1 ⟨x, H1, I1, r1, q1⟩ => ?_
  refine thn (hb pins s1 σ H1 _ I1 q1) fun u s2 ⟨y, H2, I2, r2, q2⟩ => ?_
  exact hf v u s2 x y H2 I2 r1 r2 q2
theorem pe_op {op : Operator} {r : R2} (ho : OpR X (binaryOp op) r) (ha : PE X a ta) (hb : PE X b tb) : PE X (.BinOp a op b pos) (tOp r ta tb) := by
  intro pins s σ H Q I h
  exact wpAny_BinOp (binT ha hb I h fun v u s2 x y H2 I2 rx ry q => ho pins s2 σ H2 x y v u Q I2 rx ry q)
theorem pe_un {op : UnaryOp} {r : V → Hp → VK → Prop} (ho : UnR X (unaryOp op) r) (ha : PE X a ta) : PE X (.UnaryOp op a pos) (tUn r ta) := by
  intro pins s σ H Q I h
  exact UnaryOp_ (thn (ha pins s σ H _ I h) fun v s1 ⟨x, H1, I1, r1, q1⟩ => ho pins s1 σ H1 x v Q I1 r1 q1)
/-! ### ints -/
theorem opI {f : Value → Value → Sem Value} {C : Int → Int → Prop} {g : Int → Int → Int}
    (rule : ∀ (i j : Int) (t u : Tok) (s : Shared) (Q : Value → Shared → Prop) (E : Value → Shared → Prop), C i j → Q (.int (g i j) s.toks) { s with toks := s.toks + 1 } → wpAny (model X.prog X.w) X.A (f (.int i t) (.int j u)) Q E s) :
    OpR X f (rI C fun i j => .int (g i j)) := by
  intro pins s σ H x y v u Q I rx ry h
  obtain ⟨i, j, rfl, rfl, hc, q⟩ := h
  obtain ⟨t, rfl⟩ := rx
  obtain ⟨t', rfl⟩ := ry
  exact rule i j t t' s _ _ hc ⟨.int (g i j), H, I.tok _, ⟨_, rfl⟩, q⟩
theorem opI0 {f : Value → Value → Sem Value} {g : Int → Int → Int}
    (rule : ∀ (i j : Int) (t u : Tok) (s : Shared) (Q : Value → Shared → Prop) (E : Value → Shared → Prop), Q (.int (g i j) s.toks) { s with toks := s.toks + 1 } → wpAny (model X.prog X.w) X.A (f (.int i t) (.int j u)) Q E s) :
    OpR X f (rI0 fun i j => .int (g i j)) := by
  intro pins s σ H x y v u Q I rx ry h
  obtain ⟨i, j, rfl, rfl, q⟩ := h
  obtain ⟨t, rfl⟩ := rx
  obtain ⟨t', rfl⟩ := ry
  exact rule i j t t' s _ _ ⟨.int (g i j), H, I.tok _, ⟨_, rfl⟩, q⟩
theorem opB0 {f : Value → Value → Sem Value} {g : Int → Int → Bool}
    (rule : ∀ (i j : Int) (t u : Tok) (s : Shared) (Q : Value → Shared → Prop) (E : Value → Shared → Prop), Q (.bool (g i j)) s → wpAny (model X.prog X.w) X.A (f (.int i t) (.int j u)) Q E s) :
    OpR X f (rI0 fun i j => .bl (g i j)) := by
  intro pins s σ H x y v u Q I rx ry h
  obtain ⟨i, j, rfl, rfl, q⟩ := h
  obtain ⟨t, rfl⟩ := rx
  obtain ⟨t', rfl⟩ := ry
  exact rule i j t t' s _ _ ⟨.bl (g i j), H, I, rfl, q⟩
def CMul (i j : Int) : Prop := (-(2 ^ 64) < i ∧ i < 2 ^ 64) ∨ (-(2 ^ 64) < j ∧ j < 2 ^ 64)
theorem CMul.ok {i j : Int} (h : CMul i j) : IntMulOk i j := by
  rcases h with ⟨h1, h2⟩ | ⟨h1, h2⟩
  · exact .of_left (intBits_le_64 h1 h2)
  · exact .of_right (intBits_le_64 h1 h2)
theorem op_add : OpR X (binaryOp .Add) (rI0 fun i j => .int (i + j)) := opI0 fun _ _ _ _ _ _ _ q => add_int q
theorem op_sub : OpR X (binaryOp .Sub) (rI0 fun i j => .int (i - j)) := opI0 fun _ _ _ _ _ _ _ q => sub_int q
theorem op_mul : OpR X (binaryOp .Mult) (rI CMul fun i j => .int (i * j)) := opI fun _ _ _ _ _ _ _ hc q => mul_int q hc.ok
/-- % by a positive divisor of any size -/
theorem op_mod : OpR X (binaryOp .Mod) (rI (fun _ j => 0 < j) fun i j => .int (i % j)) := opI fun i j _ _ _ _ _ hc q => by
  have h1 : (0 : Int) < j := hc
  exact mod_int' (by omega) (by rw [Int.fmod_eq_emod_of_nonneg i (by omega)]; exact q)
theorem op_and : OpR X (binaryOp .BitAnd) (rI0 fun i j => .int (Builtin.bitAnd i j)) := opI0 fun _ _ _ _ _ _ _ q => and_int q
theorem unI {f : Value → Sem Value} {g : Int → Int}
    (rule : ∀ (i : Int) (t : Tok) (s : Shared) (Q : Value → Shared → Prop) (E : Value → Shared → Prop), Q (.int (g i) s.toks) { s with toks := s.toks + 1 } → wpAny (model X.prog X.w) X.A (f (.int i t)) Q E s) :
    UnR X f (rU fun i => .int (g i)) := by
  intro pins s σ H x v Q I rx h
  obtain ⟨i, rfl, q⟩ := h
  obtain ⟨t, rfl⟩ := rx
  exact rule i t s _ _ ⟨.int (g i), H, I.tok _, ⟨_, rfl⟩, q⟩
theorem un_neg : UnR X (unaryOp .USub) (rU fun i => .int (-i)) := unI fun _ _ _ _ _ q => neg_int q
/-! ### bools among ints: n += (a < b) -/
end
/-! ### comparisons -/
/-- the scalars that == tells apart as data does -/
def scal : V → V → Bool
  | .non, .non => true | .non, .int _ => true | .int _, .non => true | .non, .bl _ => true | .bl _, .non => true | .non, .str _ => true | .str _, .non => true
  | .int _, .int _ => true | .bl _, .bl _ => true | .str _, .str _ => true | .byt _, .byt _ => true
  | .int _, .str _ => true | .str _, .int _ => true | .bl _, .str _ => true | .str _, .bl _ => true
  | _, _ => false
def rEq : R2 := fun x y H Q => scal x y = true ∧ Q (.bl (decide (x = y))) H
def rNe : R2 := fun x y H Q => scal x y = true ∧ Q (.bl (!decide (x = y))) H
theorem dec_int {i j : Int} : decide (V.int i = V.int j) = (i == j) := by
  rw [Bool.eq_iff_iff]
  simp
theorem dec_bl {i j : Bool} : decide (V.bl i = V.bl j) = (i == j) := by
  rw [Bool.eq_iff_iff]
  simp
theorem dec_str {i j : Str} : decide (V.str i = V.str j) = (i == j) := by
  rw [Bool.eq_iff_iff]
  simp
theorem dec_byt {i j : Array UInt8} : decide (V.byt i = V.byt j) = (i.toList == j.toList) := by
  rw [Bool.eq_iff_iff]
  cases i
  cases j
  simp
section
variable {X : Cx} {a b c : Expr} {ta tb tc : TE} {pos : Pos}
theorem fin_bl {pins : List (Addr × Obj)} {σ : St} {H : Hp} {s : Shared} {Q : VK} {k k' : Bool} (I : Inv X pins σ H s) (q : Q (.bl k) H) (e : k = k') : EP X pins σ Q (.bool k') s := by
  subst e
  exact ⟨.bl k, H, I, rfl, q⟩
theorem op_eq : OpR X (compareOp .Eq) rEq := by
  intro pins s σ H x y v u Q I rx ry h
  obtain ⟨hs, q⟩ := h
  cases x with
  | non =>
    cases rx
    cases y with
    | non => cases ry; exact PySem.EqNone.eq_none_none (fin_bl I q (by simp))
    | bl j => cases ry; exact PySem.EqNone.eq_none_bool (fin_bl I q (by simp))
    | int j => obtain ⟨t', rfl⟩ := ry; exact PySem.EqNone.eq_none_int (fin_bl I q (by simp))
    | str j => obtain ⟨t', rfl⟩ := ry; exact PySem.EqNone.eq_none_str (fin_bl I q (by simp))
    | _ => exact absurd (show false = true from hs) Bool.false_ne_true
  | bl i =>
    cases rx
    cases y with
    | non => cases ry; exact PySem.EqNone.eq_bool_none (fin_bl I q (by simp))
    | bl j => cases ry; exact eq_bool (fin_bl I q dec_bl)
    | str j => obtain ⟨t', rfl⟩ := ry; exact PySem.EqMixed.eq_bool_str (fin_bl I q (by simp))
    | _ => exact absurd (show false = true from hs) Bool.false_ne_true
  | int i =>
    obtain ⟨t, rfl⟩ := rx
    cases y with
    | non => cases ry; exact PySem.EqNone.eq_int_none (fin_bl I q (by simp))
    | int j => obtain ⟨t', rfl⟩ := ry; exact eq_int (fin_bl I q dec_int)
    | str j => obtain ⟨t', rfl⟩ := ry; exact PySem.EqMixed.eq_int_str (fin_bl I q (by simp))
    | _ => exact absurd (show false = true from hs) Bool.false_ne_true
  | str i =>
    obtain ⟨t, rfl⟩ := rx
    cases y with
    | non => cases ry; exact PySem.EqNone.eq_str_none (fin_bl I q (by simp))
    | bl j => cases ry; exact PySem.EqMixed.eq_str_bool (fin_bl I q (by simp))
    | int j => obtain ⟨t', rfl⟩ := ry; exact PySem.EqMixed.eq_str_int (fin_bl I q (by simp))
    | str j => obtain ⟨t', rfl⟩ := ry; exact eq_str (fin_bl I q dec_str)
    | _ => exact absurd (show false = true from hs) Bool.false_ne_true
  | byt i =>
    obtain ⟨t, rfl⟩ := rx
    cases y with
    | byt j => obtain ⟨t', rfl⟩ := ry; exact PySem.W.eq_bytes (fin_bl I q dec_byt)
    | _ => exact absurd (show false = true from hs) Bool.false_ne_true
  | _ => cases y <;> exact absurd (show false = true from hs) Bool.false_ne_true
theorem op_ne : OpR X (compareOp .NotEq) rNe := by
  intro pins s σ H x y v u Q I rx ry h
  obtain ⟨hs, q⟩ := h
  cases x with
  | non =>
    cases rx
    cases y with
    | non => cases ry; exact PySem.EqNone.ne_none_none (fin_bl I q (by simp))
    | bl j => cases ry; exact PySem.EqNone.ne_none_bool (fin_bl I q (by simp))
    | int j => obtain ⟨t', rfl⟩ := ry; exact PySem.EqNone.ne_none_int (fin_bl I q (by simp))
    | str j => obtain ⟨t', rfl⟩ := ry; exact PySem.EqNone.ne_none_str (fin_bl I q (by simp))
    | _ => exact absurd (show false = true from hs) Bool.false_ne_true
  | bl i =>
    cases rx
    cases y with
    | non => cases ry; exact PySem.EqNone.ne_bool_none (fin_bl I q (by simp))
    | bl j => cases ry; exact ne_bool (fin_bl I q (congrArg not dec_bl))
    | str j => obtain ⟨t', rfl⟩ := ry; exact PySem.EqMixed.ne_bool_str (fin_bl I q (by simp))
    | _ => exact absurd (show false = true from hs) Bool.false_ne_true
  | int i =>
    obtain ⟨t, rfl⟩ := rx
    cases y with
    | non => cases ry; exact PySem.EqNone.ne_int_none (fin_bl I q (by simp))
    | int j => obtain ⟨t', rfl⟩ := ry; exact ne_int (fin_bl I q (congrArg not dec_int))
    | str j => obtain ⟨t', rfl⟩ := ry; exact PySem.EqMixed.ne_int_str (fin_bl I q (by simp))
    | _ => exact absurd (show false = true from hs) Bool.false_ne_true
  | str i =>
    obtain ⟨t, rfl⟩ := rx
    cases y with
    | non => cases ry; exact PySem.EqNone.ne_str_none (fin_bl I q (by simp))
    | bl j => cases ry; exact PySem.EqMixed.ne_str_bool (fin_bl I q (by simp))
    | int j => obtain ⟨t', rfl⟩ := ry; exact PySem.EqMixed.ne_str_int (fin_bl I q (by simp))
    | str j => obtain ⟨t', rfl⟩ := ry; exact ne_str (fin_bl I q (congrArg not dec_str))
    | _ => exact absurd (show false = true from hs) Bool.false_ne_true
  | byt i =>
    obtain ⟨t, rfl⟩ := rx
    cases y with
    | byt j => obtain ⟨t', rfl⟩ := ry; exact PySem.W.ne_bytes (fin_bl I q (congrArg not dec_byt))
    | _ => exact absurd (show false = true from hs) Bool.false_ne_true
  | _ => cases y <;> exact absurd (show false = true from hs) Bool.false_ne_true
theorem op_lt : OpR X (compareOp .Lt) (rI0 fun i j => .bl (decide (i < j))) := opB0 fun _ _ _ _ _ _ _ q => lt_int q
theorem op_le : OpR X (compareOp .LtE) (rI0 fun i j => .bl (decide (i ≤ j))) := opB0 fun _ _ _ _ _ _ _ q => le_int q
theorem op_gt : OpR X (compareOp .Gt) (rI0 fun i j => .bl (decide (j < i))) := opB0 fun _ _ _ _ _ _ _ q => gt_int q
theorem op_ge : OpR X (compareOp .GtE) (rI0 fun i j => .bl (decide (j ≤ i))) := opB0 fun _ _ _ _ _ _ _ q => ge_int q
/-- is None, is not None: the right side a value none -/
theorem op_isN : OpR X (compareOp .Is) (fun x y H Q => y = .non ∧ Q (.bl (decide (x = .non))) H) := by
  intro pins s σ H x y v u Q I rx ry h
  obtain ⟨rfl, q⟩ := h
  cases ry
  refine is_none_gen (fin_bl I q ?_)
  cases x <;> first
    | (cases rx; rfl)
    | (obtain ⟨t, rfl⟩ := rx; rfl)
theorem op_notN : OpR X (compareOp .IsNot) (fun x y H Q => y = .non ∧ Q (.bl (!decide (x = .non))) H) := by
  intro pins s σ H x y v u Q I rx ry h
  obtain ⟨rfl, q⟩ := h
  cases ry
  refine isnot_none_gen (fin_bl I q ?_)
  cases x <;> first
    | (cases rx; rfl)
    | (obtain ⟨t, rfl⟩ := rx; rfl)
theorem nomark (b : Expr) {op : CmpOp} (h : op ≠ .In := by decide) (h2 : op ≠ .NotIn := by decide) : behindInMarks op b = false := by
  have e1 : (op == CmpOp.In) = false := by cases op <;> first | rfl | exact absurd rfl h
  have e2 : (op == CmpOp.NotIn) = false := by cases op <;> first | rfl | exact absurd rfl h2
  cases b <;> simp [behindInMarks, e1, e2]
/-- a comparison as a value; hm: nomark b, or (for in, not in) by with_unfolding_all rfl -/
theorem pe_cmpR {op : CmpOp} {r : R2} (ho : OpR X (compareOp op) r) (ha : PE X a ta) (hb : PE X b tb) (hm : behindInMarks op b = false) : PE X (.Compare a [op] [b] pos) (tOp r ta tb) := by
  intro pins s σ H Q I h
  exact wpAny_Compare1 (binT ha hb I h fun v u s2 x y H2 I2 rx ry q => ho pins s2 σ H2 x y v u Q I2 rx ry q) hm
/-- a reading of a value as a test -/
def tTest (t : TE) : TT := fun σ H Q => t σ H fun x H' => ∃ k, x = .bl k ∧ Q k H'
theorem pt_cmpR {op : CmpOp} {r : R2} (ho : OpR X (compareOp op) r) (ha : PE X a ta) (hb : PE X b tb) (hm : behindInMarks op b = false) : PT X (.Compare a [op] [b] pos) (tTest (tOp r ta tb)) := by
  intro pins s σ H Q I h
  refine wpAny_isTrue_Compare1 (thn (ha pins s σ H _ I h) fun v s1 ⟨x, H1, I1, r1, q1⟩ => thn (hb pins s1 σ H1 _ I1 q1) fun u s2 ⟨y, H2, I2, r2, q2⟩ =>
    thn (ho pins s2 σ H2 x y v u _ I2 r1 r2 q2) fun c s3 ⟨z, H3, I3, r3, k, e, q3⟩ => ?_) hm
  subst e
  cases r3
  exact wpAny_truthy_bool ⟨H3, I3, q3⟩
/-- a op1 b op2 c -/
def tChain (r r' : R2) (ta tb tc : TE) : TE := fun σ H Q => ta σ H fun x H1 => tb σ H1 fun y H2 => r x y H2 fun z H3 => ∃ k, z = .bl k ∧
  (if k = true then tc σ H3 fun w' H4 => r' y w' H4 Q else Q (.bl false) H3)
theorem pe_chain {op op' : CmpOp} {r r' : R2} (ho : OpR X (compareOp op) r) (ho' : OpR X (compareOp op') r') (ha : PE X a ta) (hb : PE X b tb) (hc : PE X c tc)
    (hm : lastMarks [op, op'] [b, c] = false := by with_unfolding_all rfl) : PE X (.Compare a [op, op'] [b, c] pos) (tChain r r' ta tb tc) := by
  intro pins s σ H Q I h
  refine Compare_chain (thn (ha pins s σ H _ I h) fun v s1 ⟨x, H1, I1, r1, q1⟩ => chain_link (thn (hb pins s1 σ H1 _ I1 q1) fun u s2 ⟨y, H2, I2, r2, q2⟩ =>
    thn (ho pins s2 σ H2 x y v u _ I2 r1 r2 q2) fun d s3 ⟨z, H3, I3, r3, k, e, q3⟩ => ?_)) hm
  subst e
  cases r3
  refine wpAny_truthy_bool ?_
  cases k with
  | false => exact ite_ff ⟨.bl false, H3, I3, rfl, q3⟩
  | true => exact ite_tt (chain_last (thn (hc pins s3 σ H3 _ I3 q3) fun w' s4 ⟨z', H4, I4, r4, q4⟩ => ho' pins s4 σ H4 y z' u w' Q I4 r2 r4 q4))
theorem pt_chain {op op' : CmpOp} {r r' : R2} (ho : OpR X (compareOp op) r) (ho' : OpR X (compareOp op') r') (ha : PE X a ta) (hb : PE X b tb) (hc : PE X c tc)
    (hm : lastMarks [op, op'] [b, c] = false := by with_unfolding_all rfl) : PT X (.Compare a [op, op'] [b, c] pos) (tTest (tChain r r' ta tb tc)) := by
  intro pins s σ H Q I h
  refine isTrue_chain (thn (ha pins s σ H _ I h) fun v s1 ⟨x, H1, I1, r1, q1⟩ => test_link (thn (hb pins s1 σ H1 _ I1 q1) fun u s2 ⟨y, H2, I2, r2, q2⟩ =>
    thn (ho pins s2 σ H2 x y v u _ I2 r1 r2 q2) fun d s3 ⟨z, H3, I3, r3, k, e, q3⟩ => ?_)) hm
  subst e
  cases r3
  refine wpAny_truthy_bool ?_
  cases k with
  | false =>
    obtain ⟨k', e', q'⟩ := q3
    cases e'
    exact ite_ff ⟨H3, I3, q'⟩
  | true =>
    refine ite_tt (test_last (thn (hc pins s3 σ H3 _ I3 q3) fun w' s4 ⟨z', H4, I4, r4, q4⟩ => thn (ho' pins s4 σ H4 y z' u w' _ I4 r2 r4 q4) fun d' s5 ⟨z2, H5, I5, r5, k2, e2, q5⟩ => ?_))
    subst e2
    cases r5
    exact wpAny_truthy_bool ⟨H5, I5, q5⟩
/-! ### truth -/
/-- a value's truth by the abstract heap -/
def TruV (K : PySem.W.Frag) (x : V) (H : Hp) (k : Bool) : Prop :=
  match x with
  | .non => k = false
  | .bl b => k = b
  | .int i => k = (i != 0)
  | .str y => y.length ≤ sizeLine ∧ k = ((y.length : Int) != 0)
  | .byt y => y.size ≤ sizeLine ∧ k = ((y.size : Int) != 0)
  | .ref p => (∃ xs, SqL K H p xs ∧ k = !xs.isEmpty) ∨ (∃ xs, SqT K H p xs ∧ k = !xs.isEmpty) ∨ ∃ kvs, H p = some (.dK kvs) ∧ k = !kvs.isEmpty
  | _ => False
theorem isEmpty_kv {κ : Type} {kvs : List (κ × V)} {vs : List (κ × Value)} (r : KV kvs vs) : (!vs.isEmpty) = !kvs.isEmpty := by
  cases r <;> rfl
theorem isEmpty_of {xs : List V} {its : List Value} (r : Vals xs its) : (!its.toArray.isEmpty) = !xs.isEmpty := by
  cases r <;> simp
theorem line63 : (sizeLine : Nat) < 2 ^ 63 := by rw [sizeLine_eq]; decide
theorem tru_ok : TruR X (fun x H Q => ∃ k, TruV X.K x H k ∧ Q k H) := by
  intro pins s σ H x v Q I rx h
  obtain ⟨k, e, q⟩ := h
  have hl := line63
  have hs : sizeLine = 16777216 := sizeLine_eq
  cases x with
  | non =>
    cases rx
    have e' : k = false := e
    subst e'
    exact truthy_none ⟨H, I, q⟩
  | bl b =>
    cases rx
    have e' : k = b := e
    subst e'
    exact wpAny_truthy_bool ⟨H, I, q⟩
  | int i =>
    obtain ⟨t, rfl⟩ := rx
    have e' : k = (i != 0) := e
    subst e'
    exact PySem.P.truthy_int ⟨H, I, q⟩
  | str y =>
    obtain ⟨t, rfl⟩ := rx
    obtain ⟨hy, e'⟩ : y.length ≤ sizeLine ∧ k = ((y.length : Int) != 0) := e
    subst e'
    exact PySem.P.truthy_str (by omega) ⟨H, I.tok _, q⟩
  | byt y =>
    obtain ⟨t, rfl⟩ := rx
    obtain ⟨hy, e'⟩ : y.size ≤ sizeLine ∧ k = ((y.size : Int) != 0) := e
    subst e'
    exact PySem.W.truthy_bytes (by omega) ⟨H, I.tok _, q⟩
  | ref p =>
    cases rx
    have e' : (∃ xs, SqL X.K H p xs ∧ k = !xs.isEmpty) ∨ (∃ xs, SqT X.K H p xs ∧ k = !xs.isEmpty) ∨ ∃ kvs, H p = some (.dK kvs) ∧ k = !kvs.isEmpty := e
    rcases e' with ⟨xs, hx, e'⟩ | ⟨xs, hx, e'⟩ | ⟨kvs, hx, e'⟩
    · subst e'
      obtain ⟨its, r, pl, hz⟩ := I.list hx
      have hlen := r.length
      exact wpAny_truthy_list pl.isList (by simp only [List.size_toArray]; omega) ⟨H, I.tok _, by rw [isEmpty_of r]; exact q⟩
    · subst e'
      obtain ⟨its, r, pl, hz⟩ := I.tuple hx
      have hlen := r.length
      exact truthy_tuple pl (by simp only [List.size_toArray]; omega) ⟨H, I.tok _, by rw [isEmpty_of r]; exact q⟩
    · subst e'
      obtain ⟨hz, hS, vs, r, m⟩ : kvs.length ≤ sizeLine ∧ (p == sysModules) = false ∧ ∃ vs, KV kvs vs ∧ s.heap.DictOf (mixKind X.prog X.w) p vs := I.hok p _ hx
      have hlen : kvs.length = vs.length := Paired.length r
      exact wpAny_truthy_dict hS m (by omega) ⟨H, I.tok _, by rw [isEmpty_kv r]; exact q⟩
  | _ => exact (show False from e).elim
/-- any expression whose test is its value's truth (a name, a call, a subscript, a field ..: he by fun _ => rfl) -/
theorem pt_truth (ha : PE X a ta) (he : ∀ whole, isTrue a X.env whole = (do let v ← whole; standAt a.pos; holding [v] (truthy v))) :
    PT X a (fun σ H Q => ta σ H fun x H' => ∃ k, TruV X.K x H' k ∧ Q k H') := by
  intro pins s σ H Q I h
  exact isTrue_plain (thn (ha pins s σ H _ I h) fun v s1 ⟨x, H1, I1, r1, q1⟩ => tru_ok pins s1 σ H1 x v Q I1 r1 q1) (he _)
/-! ### strs and bytes -/
/-! ### scalar builtins, by CallR -/
theorem vals1 {x : V} {us : List Value} (r : Vals [x] us) : ∃ u, us = [u] ∧ RelV x u := by
  cases r with
  | cons r1 r2 => cases r2; exact ⟨_, rfl, r1⟩
theorem call_abs : CallR X (.builtin "abs") (fun xs H Q => ∃ i, xs = [.int i] ∧ Q (.int (if i < 0 then -i else i)) H) := by
  intro pins s σ H xs us Q I r h
  obtain ⟨i, rfl, q⟩ := h
  obtain ⟨u, rfl, t, rfl⟩ := vals1 r
  exact call_abs_int fun u tk => ⟨.int (if i < 0 then -i else i), H, I.tok _, ⟨_, rfl⟩, q⟩
end
end L2
namespace L2
open PySem PySem.Spec PyProof.Rows
/-! ### an instance, its attributes a map -/
structure ObjM (h : Heap) (x dx C : Addr) (mA : Str → Option Value) : Prop where
  obj : h.get? x = some (PySem.W.instObj C dx)
  ns : h.Ns1 dx mA
  ne : dx ≠ x
theorem lookIn_ns {h : Heap} {dx : Addr} {mA : Str → Option Value} (n : h.Ns1 dx mA) : ∃ od, h.get? dx = some od ∧ ∀ name, PySem.W.lookIn name od = some (mA name) := by
  obtain ⟨o, es, ep, ho, hd, hk, _, hm⟩ := n
  refine ⟨o, ho, fun name => ?_⟩
  have e := hm name
  unfold nsFind findBy at e
  rw [← Array.find?_toList] at e
  unfold PySem.W.lookIn
  rw [hd]
  dsimp only
  split
  · rename_i y q
    rw [q] at e
    exact congrArg some e
  · rename_i q
    rw [q] at e
    have a : es.toList.any (·.refKey) = false := by
      rw [List.any_eq_false]
      intro y hy
      obtain ⟨z, t, hkey⟩ := hk y (Array.mem_toList_iff.mp hy)
      simp [DictEntry.refKey, hkey]
    have a' : ¬ es.toList.any (·.refKey) = true := by rw [a]; exact Bool.false_ne_true
    rw [if_neg a']
    exact congrArg some e
theorem ObjM.look {h : Heap} {x dx C : Addr} {mA : Str → Option Value} (I : ObjM h x dx C mA) : ∃ od, PySem.W.InstAt h x (PySem.W.instObj C dx) C (some od) ∧ ∀ name, PySem.W.lookIn name od = some (mA name) :=
  let ⟨od, ho, hl⟩ := lookIn_ns I.ns
  ⟨od, ⟨I.obj, rfl, rfl, ho⟩, hl⟩
section
variable {prog : Program} {w : World} {A : Around} {E : Value → Shared → Prop} {s : Shared} {K : PySem.W.Frag} {x dx C f : Addr} {mA : Str → Option Value} {name : Str} {v : Value}
theorem get_map {expr : Bool} {Q : Value → Shared → Prop} (X : K.In s.heap) (I : ObjM s.heap x dx C mA) (hg : PySem.W.plainGet K C name = true) (hh : PySem.W.hasDictIn K C = true)
    (ha : PySem.W.findIn K (.ref C) name = some none) (hv : mA name = some v) (hv' : PySem.W.handedIn v = true) (h : Q v { s with toks := s.toks + 1 }) :
    wpAny (model prog w) A (getAttr (.ref x) name expr) Q E s := by
  obtain ⟨od, J, hl⟩ := I.look
  exact PySem.W.get_value X J (PySem.W.plainGet_of hg).1 (PySem.W.findObj_own hh ha rfl (by rw [hl, hv])) hv' h
theorem get_meth {pl : Sem Bool} {Q : Value × List Value → Shared → Prop} (X : K.In s.heap) (I : ObjM s.heap x dx C mA) (hg : PySem.W.plainGet K C name = true)
    (hf : PySem.W.findIn K (.ref C) name = some (some (.ref f))) (ht : PySem.W.isFn K (.ref f) = true) (hv : mA name = none) (h : Q (.ref f, [.ref x]) s) :
    wpAny (model prog w) A (getMethod (.ref x) name pl) Q E s := by
  obtain ⟨od, J, hl⟩ := I.look
  exact PySem.W.method_fn X J (PySem.W.plainGet_of hg).1 (PySem.W.plainGet_of hg).2 hf (beq_iff_eq.mp ht) (by show (PySem.W.lookIn name od).map (·.isSome) = some false; rw [hl, hv]; rfl) h
theorem set_map {ns : List Str} {Q : Unit → Shared → Prop} (X : K.In s.heap) (I : ObjM s.heap x dx C mA)
    (hs : PySem.W.findIn K (.ref C) "__setattr__" = some (some (.builtin "object.__setattr__"))) (hp : PySem.W.plainOver K C = true) (ht : PySem.W.takerIn K C name = some none) (hh : PySem.W.hasDictIn K C = true)
    (hw : PySem.Within mA ns) (hsz : ns.length ≤ sizeLine)
    (h : ∀ h', ObjM h' x dx C (fun y => if y = name then some v else mA y) → Heap.SameBut dx s.heap h' → Q () { s with heap := h', toks := s.toks + 2 }) :
    wpAny (model prog w) A (setAttr (.ref x) name v) Q E s := by
  obtain ⟨od, J, hl⟩ := I.look
  refine PySem.W.set_plain X J hs (PySem.W.osa_open (s := { s with toks := s.toks + 1 }) (r := none) X J hp ht fun b => ?_)
  obtain ⟨cd, hc, hd'⟩ := PySem.W.any_some hh
  have hx : s.heap.get? x = some ⟨.ref C, some dx, .plain, #[]⟩ := I.obj
  refine wpAny_bind (wpAny_pure (wpAny_bind (wpAny_bind (wpAny_loadPart hx (wpAny_bind (PySem.W.Looks.here (s := { s with toks := s.toks + 1 }) (PySem.W.looks_clsIn X hc) ?_))))))
  rw [hd']
  refine wpAny_pure (a := some dx) (wpAny_bind (wpAny_pure (wpAny_bind ?_)))
  refine wpAny_nsSet1 (s := { s with toks := s.toks + 1 }) I.ns fun h' hn2 hs2 => ?_
  obtain ⟨oD, esD, epD, hoD, hdD, hcD⟩ := hn2.count (PySem.Within.cons name v hw)
  refine wpAny_bind (wpAny_lookBehind hoD (by rw [hdD]; exact pastItsLine_dict (Nat.le_trans hcD (by rw [List.length_cons]; omega))) ?_)
  exact wpAny_pure (h _ ⟨(hs2.2 _ (Ne.symm I.ne)).trans I.obj, hn2, I.ne⟩ hs2)
/-- C(..): the dict at the heap's end, the instance behind it; then its __init__ -/
theorem make_map {R : Result → Shared → Prop} {vs : List Value} {kw : List (Str × Value)} (X : K.In s.heap) (hm : PySem.W.makesIn K C = true)
    (hi : PySem.W.findIn K (.ref C) "__init__" = some (some (.ref f))) (hf : PySem.W.typeIn K (.ref f) = some (.type "function"))
    (h : codeAny (model prog w) (A.under (.builtin "type.__call__" ⟨.ref C :: vs, kw⟩)) (.call (.ref f) ⟨.ref (s.heap.objs.size + 1) :: vs, kw⟩) (PySem.W.InitBack (s.heap.objs.size + 1) R)
      { s with heap := (s.heap.push PySem.W.emptyDict).push (PySem.W.instObj C s.heap.objs.size) }) :
    codeAny (model prog w) A (.call (.ref C) ⟨vs, kw⟩) R s := by
  obtain ⟨hh, g, d, t, os⟩ := s
  exact PySem.W.make_core (PySem.W.makes_of X hm) (PySem.W.looks_findIn X hi) (fun self => PySem.W.bind_fn X self hf) (.inl rfl) h
end
/-! ### the attributes as a list of pairs -/
def putF (f : Str) (v : V) : List (Str × V) → List (Str × V)
  | [] => [(f, v)]
  | (g, x) :: r => if g = f then (g, v) :: r else (g, x) :: putF f v r
theorem lookup_putF (f g : Str) (v : V) : ∀ fs : List (Str × V), (putF f v fs).lookup g = if g = f then some v else fs.lookup g
  | [] => by
    show List.lookup g [(f, v)] = _
    by_cases h : g = f
    · have hb : (g == f) = true := beq_iff_eq.mpr h
      simp only [List.lookup, hb, if_pos h]
    · have hb : (g == f) = false := beq_eq_false_iff_ne.mpr h
      simp only [List.lookup, hb, if_neg h]
  | (k, x) :: r => by
    have ih := lookup_putF f g v r
    rw [show putF f v ((k, x) :: r) = (if k = f then (k, v) :: r else (k, x) :: putF f v r) from rfl]
    by_cases hk : k = f
    · rw [if_pos hk]
      by_cases h : g = k
      · have hb : (g == k) = true := beq_iff_eq.mpr h
        simp only [List.lookup, hb, if_pos (h.trans hk)]
      · have hb : (g == k) = false := beq_eq_false_iff_ne.mpr h
        simp only [List.lookup, hb, if_neg (fun e : g = f => h (e.trans hk.symm))]
    · rw [if_neg hk]
      by_cases h : g = k
      · have hb : (g == k) = true := beq_iff_eq.mpr h
        simp only [List.lookup, hb, if_neg (fun e : g = f => hk (h.symm.trans e))]
      · have hb : (g == k) = false := beq_eq_false_iff_ne.mpr h
        simp only [List.lookup, hb]
        exact ih
theorem keys_putF (f : Str) (v : V) : ∀ fs : List (Str × V), f ∈ (putF f v fs).map (·.1) ∧ ∀ g, g ∈ fs.map (·.1) → g ∈ (putF f v fs).map (·.1)
  | [] => ⟨by simp [putF], fun g h => by simp at h⟩
  | (k, x) :: r => by
    obtain ⟨i1, i2⟩ := keys_putF f v r
    rw [show putF f v ((k, x) :: r) = (if k = f then (k, v) :: r else (k, x) :: putF f v r) from rfl]
    by_cases hk : k = f
    · rw [if_pos hk]
      subst hk
      exact ⟨by simp, fun g h => by simpa using h⟩
    · rw [if_neg hk]
      refine ⟨?_, fun g h => ?_⟩
      · rw [List.map_cons]
        exact List.mem_cons_of_mem _ i1
      · rw [List.map_cons] at h ⊢
        rcases List.mem_cons.mp h with e | e
        · exact List.mem_cons.mpr (.inl e)
        · exact List.mem_cons_of_mem _ (i2 g e)
theorem length_putF (f : Str) (v : V) : ∀ fs : List (Str × V), (putF f v fs).length ≤ fs.length + 1
  | [] => by simp [putF]
  | (k, x) :: r => by
    have ih := length_putF f v r
    rw [show putF f v ((k, x) :: r) = (if k = f then (k, v) :: r else (k, x) :: putF f v r) from rfl]
    by_cases hk : k = f
    · rw [if_pos hk, List.length_cons, List.length_cons]; omega
    · rw [if_neg hk, List.length_cons, List.length_cons]; omega
theorem RelO.some_of {v : V} {o : Option Value} (r : RelO (some v) o) : ∃ u, o = some u ∧ RelV v u := by
  cases o with
  | none => exact (show False from r).elim
  | some u => exact ⟨u, rfl, r⟩
theorem RelO.none_of {o : Option Value} (r : RelO none o) : o = none := by
  cases o with
  | none => rfl
  | some u => exact (show False from r).elim
theorem handed_of {v : V} {u : Value} (r : RelV v u) : PySem.W.handedIn u = true := by
  cases v with
  | non => cases (show u = Value.none from r); rfl
  | bl b => cases (show u = Value.bool b from r); rfl
  | int i => obtain ⟨t, e⟩ := (show ∃ t, u = Value.int i t from r); cases e; rfl
  | str x => obtain ⟨t, e⟩ := (show ∃ t, u = Value.str x t from r); cases e; rfl
  | byt b => obtain ⟨t, e⟩ := (show ∃ t, u = Value.bytes b t from r); cases e; rfl
  | flt b => obtain ⟨t, e⟩ := (show ∃ t, u = Value.float b t from r); cases e; rfl
  | ref a => cases (show u = Value.ref a from r); rfl
  | ty n => cases (show u = Value.type n from r); rfl
section
variable {P : Program} {w : World} {H H' : Hp} {h h' : Heap} {a C dx : Addr} {fs fs' : List (Str × V)}
theorem ins_get (hok : HOk P w H h) (e : H a = some (.ins C dx fs)) : ∃ mA, ObjM h a dx C mA ∧ (∀ f, RelO (fs.lookup f) (mA f)) ∧ PySem.Within mA (fs.map (·.1)) ∧ fs.length ≤ 1000 ∧ H dx = some (.own a) := by
  obtain ⟨d, z, ne, ob, mA, n, r, q⟩ := (show ObjOk P w H h a (.ins C dx fs) from hok a _ e)
  exact ⟨mA, ⟨ob, n, ne⟩, r, q, z, d⟩
end
/-! ### what of the text a class must have -/
structure Cls (K : PySem.W.Frag) (C : Addr) : Prop where
  pg : PySem.W.plainGet K C Str.empty = true
  hd : PySem.W.hasDictIn K C = true
  po : PySem.W.plainOver K C = true
  sa : PySem.W.findIn K (.ref C) "__setattr__" = some (some (.builtin "object.__setattr__"))
theorem Cls.get {K : PySem.W.Frag} {C : Addr} (c : Cls K C) (f : Str) : PySem.W.plainGet K C f = true := c.pg
/-- no class of it has the name -/
def NoAttr (K : PySem.W.Frag) (C : Addr) (f : Str) : Prop := PySem.W.findIn K (.ref C) f = some none
theorem NoAttr.taker {K : PySem.W.Frag} {C : Addr} {f : Str} (n : NoAttr K C f) : PySem.W.takerIn K C f = some none := by
  unfold PySem.W.takerIn
  rw [show PySem.W.findIn K (.ref C) f = some none from n]
  rfl
/-- a method: a plain def of the class or of one above it -/
structure Meth (K : PySem.W.Frag) (C : Addr) (m : Str) (f : Addr) : Prop where
  at_ : PySem.W.findIn K (.ref C) m = some (some (.ref f))
  fn : PySem.W.isFn K (.ref f) = true
  kp : PySem.W.keepIn K (.ref f) = true
section
variable {X : Cx} {pins : List (Addr × Obj)} {σ : St} {H : Hp} {s : Shared} {a C dx : Addr} {fs : List (Str × V)} {f : Str} {v : V} {A : Around} {E : Value → Shared → Prop}
theorem getattr_ok {b : Bool} {Q : Value → Shared → Prop} (I : Inv X pins σ H s) (e : H a = some (.ins C dx fs)) (c : Cls X.K C) (n : NoAttr X.K C f) (l : fs.lookup f = some v)
    (h : ∀ u s', Inv X pins σ H s' → RelV v u → Q u s') : wpAny (model X.prog X.w) A (getAttr (.ref a) f b) Q E s := by
  obtain ⟨mA, O, r, _, _, _⟩ := ins_get I.hok e
  obtain ⟨u, hu, ru⟩ := RelO.some_of (v := v) (o := mA f) (by rw [← l]; exact r f)
  exact get_map I.kIn O (c.get f) c.hd n hu (handed_of ru) (h u _ (I.tok _) ru)
theorem getmeth_ok {m : Str} {g : Addr} {pl : Sem Bool} {Q : Value × List Value → Shared → Prop} (I : Inv X pins σ H s) (e : H a = some (.ins C dx fs)) (c : Cls X.K C) (k : Meth X.K C m g) (l : fs.lookup m = none)
    (h : Q (.ref g, [.ref a]) s) : wpAny (model X.prog X.w) A (getMethod (.ref a) m pl) Q E s := by
  obtain ⟨mA, O, r, _, _, _⟩ := ins_get I.hok e
  have hn : mA m = none := RelO.none_of (by rw [← l]; exact r m)
  exact get_meth I.kIn O (c.get m) k.at_ k.fn hn h
theorem setattr_ok {y : V} {u : Value} {Q : Unit → Shared → Prop} (I : Inv X pins σ H s) (e : H a = some (.ins C dx fs)) (c : Cls X.K C) (n : NoAttr X.K C f) (hl : fs.length < 1000) (ry : RelV y u)
    (h : ∀ s', Inv X pins σ (upd H a (.ins C dx (putF f y fs))) s' → Q () s') : wpAny (model X.prog X.w) A (setAttr (.ref a) f u) Q E s := by
  obtain ⟨mA, O, r, wi, _, ho⟩ := ins_get I.hok e
  have hz : (fs.map (·.1)).length ≤ sizeLine := by rw [List.length_map, sizeLine_eq]; omega
  refine set_map I.kIn O c.sa c.po n.taker c.hd wi hz fun h' O' sb => h _ ?_
  have hd : ∃ o, h'.get? dx = some o := let ⟨o, _, _, e', _⟩ := O'.ns; ⟨o, e'⟩
  refine I.write (x := a) (e := dx) (by rw [e]; exact True.intro) (.inr ho) (fun b q hb z => (sb.2 b hb).trans z) hd ?_
  refine ⟨by rw [upd_ne O.ne]; exact ho, ?_, O.ne, O'.obj, _, O'.ns, fun g => ?_, fun g hg => ?_⟩
  · have := length_putF f y fs; omega
  · show RelO ((putF f y fs).lookup g) (if g = f then some u else mA g)
    rw [lookup_putF]
    by_cases q : g = f
    · rw [if_pos q, if_pos q]; exact ry
    · rw [if_neg q, if_neg q]; exact r g
  · by_cases q : g = f
    · rw [q]; exact (keys_putF f y fs).1
    · refine (keys_putF f y fs).2 g (wi g fun z => hg ?_)
      show (if g = f then some u else mA g) = none
      rw [if_neg q]; exact z
/-- a new instance, tracked, without attributes -/
theorem Inv.made (I : Inv X pins σ H s) : Inv X pins σ (upd (upd H s.heap.objs.size (.own (s.heap.objs.size + 1))) (s.heap.objs.size + 1) (.ins C s.heap.objs.size []))
    { s with heap := (s.heap.push PySem.W.emptyDict).push (PySem.W.instObj C s.heap.objs.size) } := by
  have e1 : (s.heap.push PySem.W.emptyDict).get? s.heap.objs.size = some PySem.W.emptyDict := Heap.get?_push_size s.heap rfl
  have e2 : ((s.heap.push PySem.W.emptyDict).push (PySem.W.instObj C s.heap.objs.size)).get? (s.heap.objs.size + 1) = some (PySem.W.instObj C s.heap.objs.size) := by
    have := Heap.get?_push_size (s.heap.push PySem.W.emptyDict) (o := PySem.W.instObj C s.heap.objs.size) rfl
    rwa [Heap.size_push] at this
  have e3 : (s.heap.push PySem.W.emptyDict).Ns s.heap.objs.size (fun _ => none) := ⟨PySem.W.emptyDict, #[], _, e1, rfl, (fun e he => absurd he (by simp)), fun _ => rfl⟩
  have I1 := I.laid (a := s.heap.objs.size) (o := .own (s.heap.objs.size + 1)) (h' := s.heap.push PySem.W.emptyDict) (t' := s.toks) (fun b u q => Heap.get?_push_of_some _ q) (Nat.le_refl _) ⟨_, e1⟩
  refine I1.laid (a := s.heap.objs.size + 1) (o := .ins C s.heap.objs.size []) (t' := s.toks) (fun b u q => Heap.get?_push_of_some _ q) (Nat.le_of_eq (Heap.size_push _ _)) ?_
  have ne : s.heap.objs.size ≠ s.heap.objs.size + 1 := Nat.ne_of_lt (Nat.lt_succ_self _)
  refine ⟨by rw [upd_ne ne, upd_same], Nat.zero_le _, ne, e2, fun _ => none, (Heap.Ns1.of_empty e3).at fun o q => Heap.get?_push_of_some _ q, fun _ => True.intro, fun y hy => absurd rfl hy⟩
/-- e.f where nothing but the object is asked: through attributeBase (super) and the last hold -/
theorem attr_of {prog : Program} {w : World} {env : Env} {e : Expr} {f : Str} {pos : Pos} {s : Shared} {Q : Value → Shared → Prop} (hb : attributeBase e f env (eval e env) = eval e env)
    (h : wpAny (model prog w) A (eval e env) (fun o s₁ => wpAny (model prog w) A (getAttr o f true) Q E s₁) E s) : wpAny (model prog w) A (eval (.Attribute e f pos) env) Q E s :=
  Attribute_any_ h (by rw [arm_eval_Attribute, hb])
end
/-! ### readings and rules -/
/-- e.f, an attribute of the instance -/
def tFld (K : PySem.W.Frag) (ta : TE) (f : Str) : TE := fun σ H Q => ta σ H fun x H1 => ∃ a C dx fs v, x = .ref a ∧ H1 a = some (.ins C dx fs) ∧ Cls K C ∧ NoAttr K C f ∧ fs.lookup f = some v ∧ Q v H1
/-- e.f = value -/
def sFld (K : PySem.W.Frag) (ta tv : TE) (f : Str) : TS := fun D σ H => tv σ H fun y H1 => ta σ H1 fun x H2 => ∃ a C dx fs, x = .ref a ∧ H2 a = some (.ins C dx fs) ∧ Cls K C ∧ NoAttr K C f ∧ fs.length < 1000 ∧
  D.nx σ (upd H2 a (.ins C dx (putF f y fs)))
/-- an augmented operator on two values -/
def InOp (X : Cx) (op : Operator) (rd : V → V → Hp → VK → Prop) : Prop :=
  ∀ (pins : List (Addr × Obj)) (s : Shared) (σ : St) (H : Hp) (x y : V) (u v : Value) (Q : VK), Inv X pins σ H s → RelV x u → RelV y v → rd x y H Q → wpAny (model X.prog X.w) X.A (inplaceOp op u v) (EP X pins σ Q) X.xe s
/-- e.f op= value -/
def sFldAug (K : PySem.W.Frag) (ta tv : TE) (rd : V → V → Hp → VK → Prop) (f : Str) : TS := fun D σ H => ta σ H fun x H1 => ∃ a C dx fs v, x = .ref a ∧ H1 a = some (.ins C dx fs) ∧ Cls K C ∧ NoAttr K C f ∧ fs.lookup f = some v ∧
  tv σ H1 fun y H2 => rd v y H2 fun z H3 => ∃ dx' fs', H3 a = some (.ins C dx' fs') ∧ fs'.length < 1000 ∧ D.nx σ (upd H3 a (.ins C dx' (putF f z fs')))
section
variable {X : Cx} {o e value : Expr} {f : Str} {pos pos' tpos : Pos} {ta tv : TE}
theorem pe_fld (he : PE X e ta) (hb : attributeBase e f X.env (eval e X.env) = eval e X.env) : PE X (.Attribute e f pos) (tFld X.K ta f) := by
  intro pins s σ H Q I h
  refine attr_of hb (thn (he pins s σ H _ I h) fun u s1 ⟨x, H1, I1, rx, a, C, dx, fs, v, ex, ea, c, n, l, q⟩ => ?_)
  subst ex
  obtain rfl : u = Value.ref a := rx
  exact getattr_ok I1 ea c n l fun u' s2 I2 ru => ⟨v, H1, I2, ru, q⟩
theorem ps_fld (ha : PE X o ta) (hv : PE X value tv) (hs : swapsWith value (some (.Attribute o f pos')) pos.line X.env = pure false) : PS X (.Assign [.Attribute o f pos'] value pos) (sFld X.K ta tv f) := by
  intro pins s σ H D I h
  refine plainObj_wpAny_Assign_Attribute (thn (hv pins s σ H _ I h) fun u s1 ⟨y, H1, I1, ry, q⟩ => thn (ha pins s1 σ H1 _ I1 q) fun ov s2 ⟨x, H2, I2, rx, a, C, dx, fs, ex, ea, c, n, l, q2⟩ => ?_) hs
  subst ex
  obtain rfl : ov = Value.ref a := rx
  exact setattr_ok I2 ea c n l ry fun s3 I3 => ⟨σ, _, I3, q2⟩
theorem ps_fldaug {op : Operator} {rd : V → V → Hp → VK → Prop} (ha : PE X o ta) (hv : PE X value tv) (hop : InOp X op rd) : PS X (.AugAssign (.Attribute o f tpos) op value pos) (sFldAug X.K ta tv rd f) := by
  intro pins s σ H D I h
  refine wpAny_AugAssign_AttributeAny (thn (ha pins s σ H _ I h) fun ov s1 ⟨x, H1, I1, rx, a, C, dx, fs, v, ex, ea, c, n, l, q⟩ => ?_)
  subst ex
  obtain rfl : ov = Value.ref a := rx
  refine getattr_ok I1 ea c n l fun u s2 I2 ru => thn (hv pins s2 σ H1 _ I2 q) fun w3 s3 ⟨y, H2, I3, ry, q3⟩ => thn (hop pins s3 σ H2 v y u w3 _ I3 ru ry q3) fun w4 s4 ⟨z, H3, I4, rz, dx', fs', ea', l', q4⟩ => ?_
  exact setattr_ok I4 ea' c n l' rz fun s5 I5 => ⟨σ, _, I5, q4⟩
def rAdd : V → V → Hp → VK → Prop := fun x y H Q => ∃ i j, x = .int i ∧ y = .int j ∧ Q (.int (i + j)) H
theorem in_add : InOp X .Add rAdd := by
  rintro pins s σ H x y u v Q I rx ry ⟨i, j, rfl, rfl, q⟩
  obtain ⟨t, rfl⟩ := (show ∃ t, u = Value.int i t from rx)
  obtain ⟨t', rfl⟩ := (show ∃ t', v = Value.int j t' from ry)
  exact PyProof.Rows.iadd_int ⟨.int (i + j), H, I.tok _, ⟨_, rfl⟩, q⟩
end
/-! ### isinstance -/
section
variable {X : Cx} {pins : List (Addr × Obj)} {σ : St} {H : Hp} {s : Shared} {A : Around} {E : Value → Shared → Prop} {Q : Value → Shared → Prop} {c : Value} {b : Bool}
end
end L2
namespace L2
open PySem PySem.Spec PyProof.Rows
/-! ### room -/
structure Room (k : Nat) (A : Around) : Prop where
  hd : A.handled = none
  dp : A.depth + 3 * k + 5 < recursionLimit
  un : A.units + 16 * k + 200 < cLine
theorem Room.mono {j k : Nat} {A : Around} (r : Room k A) (h : j ≤ k) : Room j A := ⟨r.hd, by have := r.dp; omega, by have := r.un; omega⟩
theorem Room.deeper {k : Nat} {A : Around} (r : Room (k + 1) A) (env : Env) : Room k (A.deeper env) :=
  ⟨r.hd, by have := r.dp; show A.depth + 1 + 3 * k + 5 < _; omega, by have := r.un; show A.units + 3 + 16 * k + 200 < _; omega⟩
theorem make_depth {A : Around} {C : Addr} {us : List Value} {kw : List (Str × Value)} : (A.under (.builtin "type.__call__" ⟨.ref C :: us, kw⟩)).depth = A.depth + 1 := by
  first | rfl | simp [Around.under, Code.weight, Code.isCreation, Code.isGuard, Code.isCaller, Code.frames, Code.isFrame, guardIds]
theorem make_units {A : Around} {C : Addr} {us : List Value} {kw : List (Str × Value)} : (A.under (.builtin "type.__call__" ⟨.ref C :: us, kw⟩)).units = A.units + 1 := by
  first | rfl | simp [Around.under, Code.cUnits, Code.frames, Code.isFrame]
theorem Room.make {k : Nat} {A : Around} (r : Room (k + 1) A) (C : Addr) (us : List Value) (kw : List (Str × Value)) : Room k (A.under (.builtin "type.__call__" ⟨.ref C :: us, kw⟩)) :=
  ⟨r.hd, by have := r.dp; rw [make_depth]; omega, by have := r.un; rw [make_units]; omega⟩
theorem Room.depth {k : Nat} {A : Around} (r : Room k A) : A.depth < recursionLimit := by have := r.dp; omega
theorem Room.units {k : Nat} {A : Around} (r : Room k A) : A.units + 64 < cLine := by have := r.un; omega
/-! ### argument lists and displays -/
def tNil : TA := fun _ H Q => Q [] H
def tCons (ta : TE) (tr : TA) : TA := fun σ H Q => ta σ H fun x H1 => tr σ H1 fun xs H2 => Q (x :: xs) H2
section
variable {X : Cx} {e : Expr} {es : List Expr} {te : TE} {t : TA} {pos : Pos}
theorem pa_nil : PA X [] tNil := fun _ _ _ _ H Q I h => Calls.spliced_nil ⟨[], H, I, .nil, h⟩
theorem pa_cons (ha : PE X e te) (hr : PA X es t) (hs : starEach (e :: es) X.env = (false, eval e X.env) :: starEach es X.env := by rfl) : PA X (e :: es) (tCons te t) := by
  intro pos pins s σ H Q I h
  rw [hs]
  show wpAny _ _ (spliced ((false, eval e X.env) :: backTo pos (starEach es X.env))) _ _ s
  refine Calls.spliced_cons (thn (ha pins s σ H _ I h) fun u s1 ⟨x, H1, I1, r1, q1⟩ => ?_)
  exact thn (hr pos pins s1 σ H1 _ I1 q1) fun us s2 ⟨xs, H2, I2, r2, q2⟩ => ⟨x :: xs, H2, I2, .cons r1 r2, q2⟩
/-- a tuple, a list of written items -/
def tTup (t : TA) : TE := fun σ H Q => t σ H fun xs H1 => xs.length ≤ sizeLine ∧ ∀ p, H1 p = none → Q (.ref p) (upd H1 p (.tup xs))
def tLst (t : TA) : TE := fun σ H Q => t σ H fun xs H1 => xs.length ≤ sizeLine ∧ ∀ p, H1 p = none → Q (.ref p) (upd H1 p (.lst xs))
theorem pe_tup {x1} (h : PA X es t) : PE X (.Tuple es x1 pos) (tTup t) := by
  intro pins s σ H Q I hq
  refine wpAny_Tuple_spliced (thn (h pos pins s σ H _ I hq) fun us s1 ⟨xs, H1, I1, r, z, q⟩ => ⟨by rw [← r.length]; exact z, ?_⟩)
  have hf : H1 s1.heap.objs.size = none := I1.hok.fresh (Nat.le_refl _)
  refine ⟨.ref s1.heap.objs.size, upd H1 s1.heap.objs.size (.tup xs), I1.laid (t' := s1.toks) (fun b u e => Heap.get?_push_of_some _ e) (Nat.le_refl _) ?_, rfl, q _ hf⟩
  exact ⟨z, us, r, ⟨_, Heap.get?_push_size _ rfl, rfl, _, rfl⟩⟩
theorem pe_lst (h : PA X es t) : PE X (.List es pos) (tLst t) := by
  intro pins s σ H Q I hq
  refine wpAny_List_spliced (thn (h pos pins s σ H _ I hq) fun us s1 ⟨xs, H1, I1, r, z, q⟩ => ⟨by rw [← r.length]; exact z, ?_⟩)
  have hf : H1 s1.heap.objs.size = none := I1.hok.fresh (Nat.le_refl _)
  refine ⟨.ref s1.heap.objs.size, upd H1 s1.heap.objs.size (.lst xs), I1.laid (t' := s1.toks) (fun b u e => Heap.get?_push_of_some _ e) (Nat.le_refl _) ?_, rfl, q _ hf⟩
  exact ⟨z, us, 0, r, Heap.get?_push_size _ rfl⟩
end
/-! ### what a def promises -/
/-- a def's promise: the bound arguments in the parameters' order, the heap, the wanted end, the wanted exception -/
abbrev Sp := List V → Hp → VK → XK → Prop
/-- how an exception lies behind a call (file 08 gives it): the callers' frames, abstract heap and state ahead of the call, the wish, the exception, the state -/
abbrev CXT := List Env → Hp → Shared → XK → Value → Shared → Prop
/-- the state at a call -/
structure Env0 (P : Program) (w : World) (K : PySem.W.Frag) (mg : Str → Option Value) (base : Heap) (A : Around) (outer : List Env) (s : Shared) (H : Hp) : Prop where
  frames : A.frames = some outer
  mod : Mod K mg base
  bs : ∀ b o, base.get? b = some o → s.heap.get? b = some o ∧ H b = none
  bsz : base.objs.size ≤ s.heap.objs.size
  funs : s.heap.FunFrames base outer
  frf : ∀ b ∈ frs outer, H b = none
  hok : HOk P w H s.heap
  bare : AllBare s.gens
/-- a call's end -/
def CE (outer : List Env) (P : Program) (w : World) (H : Hp) (s : Shared) (Q : VK) (u : Value) (s' : Shared) : Prop :=
  ∃ v H', s'.os = s.os ∧ AllBare s'.gens ∧ Un (frs outer) [] H H' s.heap s'.heap ∧ HOk P w H' s'.heap ∧ RelV v u ∧ Q v H'
def CR (CX : CXT) (outer : List Env) (P : Program) (w : World) (H : Hp) (s : Shared) (Q : VK) (E : XK) (r : Result) (s' : Shared) : Prop :=
  match r with
  | .ok (.ret u) => CE outer P w H s Q u s'
  | .ok _ => False
  | .error e => CX outer H s E e s'
structure FnOk (P : Program) (w : World) (K : PySem.W.Frag) (mg : Str → Option Value) (base : Heap) (CX : CXT) (k : Nat) (f : Addr) (fd : FuncData) (ps : List Str) (sp : Sp) : Prop where
  len : ∀ vs H Q E, sp vs H Q E → vs.length = ps.length
  run : ∀ (A : Around) (outer : List Env) (s : Shared) (H : Hp) (args : Args) (us : List Value) (vs : List V) (Q : VK) (E : XK), Room k A → Env0 P w K mg base A outer s H → BindsTo s fd args (ps.zip us) → Vals vs us → sp vs H Q E →
    codeAny (model P w) A (.call (.ref f) args) (CR CX outer P w H s Q E) s
theorem Env0.make {P : Program} {w : World} {K : PySem.W.Frag} {mg : Str → Option Value} {base : Heap} {A : Around} {outer : List Env} {s : Shared} {H : Hp} (e : Env0 P w K mg base A outer s H) (C : Addr) (us : List Value) (kw : List (Str × Value)) :
    Env0 P w K mg base (A.under (.builtin "type.__call__" ⟨.ref C :: us, kw⟩)) outer s H := ⟨by first | exact e.frames | (simpa [Around.under, Code.envs, Code.isFrame, pushEnvs] using e.frames), e.mod, e.bs, e.bsz, e.funs, e.frf, e.hok, e.bare⟩
section
variable {X : Cx} {pins : List (Addr × Obj)} {σ : St} {H : Hp} {s s' : Shared}
/-- from a body: what a callee wants -/
theorem Inv.env0 (I : Inv X pins σ H s) : Env0 X.prog X.w X.K X.mg X.base X.A X.stack s H :=
  ⟨I.ok.frames, I.ok.mod, I.bs, Nat.le_trans I.ok.bsz I.sz, I.stack, I.stkFree, I.hok, I.bare⟩
/-- behind a call -/
theorem Inv.after {Q : VK} {u : Value} (I : Inv X pins σ H s) (h : CE X.stack X.prog X.w H s Q u s') : EP X pins σ Q u s' := by
  obtain ⟨v, H', os, bare, un, hok, r, q⟩ := h
  obtain ⟨hh, g, d, t, os'⟩ := s'
  obtain rfl : os' = s.os := os
  exact ⟨v, H', I.call (h' := hh) (g' := g) (d' := d) (t' := t) (ch := []) un hok bare (fun b z => absurd z (by simp)), r, q⟩
end
/-! ### calls -/
/-- f(..): the written arguments, then the defaults dvs; E: what is wanted of an exception -/
def tCall (sp : Sp) (dvs : List V) (E : XK) (t : TA) : TE := fun σ H Q => t σ H fun vs H1 => sp (vs ++ dvs) H1 Q E
/-- o.m(..) of an instance of the class at C -/
def tMeth (C : Addr) (m : Str) (sp : Sp) (dvs : List V) (E : XK) (ta : TE) (t : TA) : TE := fun σ H Q => ta σ H fun x H1 => ∃ a dx fs, x = .ref a ∧ H1 a = some (.ins C dx fs) ∧ fs.lookup m = none ∧
  t σ H1 fun vs H2 => sp (x :: (vs ++ dvs)) H2 Q E
/-- C(..): a new instance and its dict, then __init__ -/
def tMake (C : Addr) (sp : Sp) (dvs : List V) (E : XK) (t : TA) : TE := fun σ H Q => t σ H fun vs H1 => ∀ x dx, H1 x = none → H1 dx = none → dx ≠ x →
  sp (.ref x :: (vs ++ dvs)) (upd (upd H1 dx (.own x)) x (.ins C dx [])) (fun v H2 => v = .non ∧ Q (.ref x) H2) E
/-- how the parameters are bound: us the positional arguments, kw the keywords' values by name, ds the defaults that fill up -/
def Binds (K : PySem.W.Frag) (fd : FuncData) (ps : List Str) (ds : List Value) : Prop :=
  ∀ (s : Shared) (us : List Value), K.In s.heap → (us ++ ds).length = ps.length → BindsTo s fd ⟨us, []⟩ (ps.zip (us ++ ds))
/-- every parameter is given -/
theorem Binds.all {K : PySem.W.Frag} {fd : FuncData} {ps : List Str} (h : ∀ us : List Value, us.length = ps.length → bindArgs fd ⟨us, []⟩ = pure (ps.zip us)) : Binds K fd ps [] := fun s us _ hl => by
  rw [List.append_nil] at hl ⊢
  exact .of_eq (h us hl)
/-- an exception of a callee reaches what this body wants of exceptions -/
def Passes (CX : CXT) (X : Cx) (E : XK) : Prop := ∀ (pins : List (Addr × Obj)) (σ : St) (H : Hp) (s : Shared) (e : Value) (s' : Shared), Inv X pins σ H s → CX X.stack H s E e s' → X.xe e s'
section
variable {X : Cx} {CX : CXT} {k : Nat} {f C : Addr} {fd : FuncData} {ps : List Str} {sp : Sp} {dvs : List V} {ds : List Value} {E : XK} {x m : Str} {p pos apos : Pos} {e o : Expr} {es : List Expr} {ta : TE} {t : TA}
/-- the callee runs -/
theorem run_fn {pins : List (Addr × Obj)} {σ : St} {H : Hp} {s : Shared} {Q : VK} {us : List Value} {vs : List V} (F : FnOk X.prog X.w X.K X.mg X.base CX k f fd ps sp) (hr : Room k X.A) (hb : Binds X.K fd ps ds) (hd : Vals dvs ds) (hx : Passes CX X E)
    (I : Inv X pins σ H s) (r : Vals vs us) (h : sp (vs ++ dvs) H Q E) : wpAny (model X.prog X.w) X.A (call (.ref f) us) (EP X pins σ Q) X.xe s := by
  have r2 : Vals (vs ++ dvs) (us ++ ds) := r.append hd
  have hl : (us ++ ds).length = ps.length := by rw [← r2.length]; exact F.len _ _ _ _ h
  refine wpAny_call (codeAny_mono (F.run X.A X.stack s H ⟨us, []⟩ (us ++ ds) (vs ++ dvs) Q E hr I.env0 (hb s us I.kIn hl) r2 h) fun r s' hq => ?_)
  cases r with
  | error e => exact hx pins σ H s e s' I hq
  | ok fl =>
    cases fl with
    | ret u => exact I.after hq
    | next => exact False.elim hq
    | brk => exact False.elim hq
    | cont => exact False.elim hq
theorem pe_call (F : FnOk X.prog X.w X.K X.mg X.base CX k f fd ps sp) (hr : Room k X.A) (hg : Gl X x) (hm : X.mg x = some (.ref f)) (hk : PySem.W.keepIn X.K (.ref f) = true) (hb : Binds X.K fd ps ds) (hd : Vals dvs ds) (hx : Passes CX X E)
    (ha : PA X (e :: es) t) (hdb : (x == ("__debug__" : Str)) = false := by decide) (he : starEach (e :: es) X.env = (false, eval e X.env) :: starEach es X.env := by rfl) (hpl : (backTo pos (starEach es X.env)).any (·.1) = false := by rfl) :
    PE X (.Call (.Name x p) (e :: es) [] pos) (tCall sp dvs E t) := by
  intro pins s σ H Q I h
  refine wpAny_Call_Name_kw (ld_glob I hg hm ?_ hdb)
  refine PySem.W.callWith_K (h₀ := X.base) I.ok.mod.kin hk (thn (ha pos pins s σ H _ I h) fun us s1 ⟨vs, H1, I1, r, q⟩ => ⟨I1.kIn, ?_⟩) he hpl
  exact run_fn F hr hb hd hx I1 r q
/-- o.m(e, ..) -/
theorem pe_meth {pl : Sem Bool} (he : PE X o ta) (c : Cls X.K C) (hm : Meth X.K C m f) (F : FnOk X.prog X.w X.K X.mg X.base CX k f fd ps sp) (hr : Room k X.A) (hb : Binds X.K fd ps ds) (hd : Vals dvs ds) (hx : Passes CX X E) (ha : PA X (e :: es) t)
    (hst : starEach (e :: es) X.env = (false, eval e X.env) :: starEach es X.env := by rfl) (hpl : (backTo pos (starEach es X.env)).any (·.1) = false := by rfl)
    (ht : eval (.Call (.Attribute o m apos) (e :: es) [] pos) X.env = (do
      let ov ← eval o X.env
      standAt apos.atName
      let (f, first) ← holding [ov] (getMethod ov m pl)
      callWith pos f first (backTo pos (starEach (e :: es) X.env)) (backToKw pos (keywordEach [] X.env))) := by rfl) :
    PE X (.Call (.Attribute o m apos) (e :: es) [] pos) (tMeth C m sp dvs E ta t) := by
  intro pins s σ H Q I h
  refine PySem.W.methodCall_KW (pl := pl) (thn (he pins s σ H _ I h) fun u s1 ⟨x, H1, I1, rx, a, dx, fs, ex, ea, l, q⟩ => ?_) ht
  subst ex
  obtain rfl : u = Value.ref a := rx
  refine getmeth_ok I1 ea c hm l ?_
  refine PySem.W.callWith_K (first := [.ref a]) (h₀ := X.base) I.ok.mod.kin hm.kp (thn (ha pos pins s1 σ H1 _ I1 q) fun us s2 ⟨vs, H2, I2, r, q2⟩ => ⟨I2.kIn, ?_⟩) hst hpl
  exact run_fn (us := .ref a :: us) (vs := .ref a :: vs) F hr hb hd hx I2 (.cons rfl r) q2
/-- o.m() -/
theorem pe_meth0 {pl : Sem Bool} (he : PE X o ta) (c : Cls X.K C) (hm : Meth X.K C m f) (F : FnOk X.prog X.w X.K X.mg X.base CX k f fd ps sp) (hr : Room k X.A) (hb : Binds X.K fd ps ds) (hd : Vals dvs ds) (hx : Passes CX X E)
    (ht : eval (.Call (.Attribute o m apos) [] [] pos) X.env = (do
      let ov ← eval o X.env
      standAt apos.atName
      let (f, first) ← holding [ov] (getMethod ov m pl)
      callWith pos f first (backTo pos (starEach [] X.env)) (backToKw pos (keywordEach [] X.env))) := by rfl) :
    PE X (.Call (.Attribute o m apos) [] [] pos) (tMeth C m sp dvs E ta tNil) := by
  intro pins s σ H Q I h
  refine PySem.W.methodCall_KW (pl := pl) (thn (he pins s σ H _ I h) fun u s1 ⟨x, H1, I1, rx, a, dx, fs, ex, ea, l, q⟩ => ?_) ht
  subst ex
  obtain rfl : u = Value.ref a := rx
  refine getmeth_ok I1 ea c hm l ?_
  exact PySem.W.callWith_K0 (first := [.ref a]) I1.kIn hm.kp (run_fn (us := [.ref a]) (vs := [.ref a]) F hr hb hd hx I1 (.cons rfl .nil) q)
/-- what a class must have to be made -/
structure Mk (K : PySem.W.Frag) (C f : Addr) : Prop where
  makes : PySem.W.makesIn K C = true
  init : PySem.W.findIn K (.ref C) "__init__" = some (some (.ref f))
  fn : PySem.W.isFn K (.ref f) = true
  kp : PySem.W.keepIn K (.ref C) = true
theorem run_make {pins : List (Addr × Obj)} {σ : St} {H : Hp} {s : Shared} {Q : VK} {us : List Value} {vs : List V} (M : Mk X.K C f) (F : FnOk X.prog X.w X.K X.mg X.base CX k f fd ps sp) (hr : Room (k + 1) X.A) (hb : Binds X.K fd ps ds) (hd : Vals dvs ds)
    (hx : Passes CX X E) (I : Inv X pins σ H s) (r : Vals vs us)
    (h : ∀ x dx, H x = none → H dx = none → dx ≠ x → sp (.ref x :: (vs ++ dvs)) (upd (upd H dx (.own x)) x (.ins C dx [])) (fun v H2 => v = .non ∧ Q (.ref x) H2) E) :
    wpAny (model X.prog X.w) X.A (call (.ref C) us) (EP X pins σ Q) X.xe s := by
  have hq := h (s.heap.objs.size + 1) s.heap.objs.size (I.hok.fresh (Nat.le_succ _)) (I.hok.fresh (Nat.le_refl _)) (Nat.ne_of_lt (Nat.lt_succ_self _))
  have I2 := Inv.made (C := C) I
  have r2 : Vals (V.ref (s.heap.objs.size + 1) :: (vs ++ dvs)) (Value.ref (s.heap.objs.size + 1) :: (us ++ ds)) := .cons rfl (r.append hd)
  have hl : (Value.ref (s.heap.objs.size + 1) :: us ++ ds).length = ps.length := by
    have e := r2.length
    rw [F.len _ _ _ _ hq] at e
    exact e.symm
  refine wpAny_call (make_map (f := f) I.kIn M.makes M.init (beq_iff_eq.mp M.fn) (codeAny_mono (F.run _ X.stack _ _ ⟨Value.ref (s.heap.objs.size + 1) :: us, []⟩ (Value.ref (s.heap.objs.size + 1) :: (us ++ ds)) _ _ E (hr.make C us [])
    (I2.env0.make C us []) (hb _ (Value.ref (s.heap.objs.size + 1) :: us) I2.kIn hl) r2 hq) fun r s' hq' => ?_))
  cases r with
  | error e => exact hx pins σ _ _ e s' I2 hq'
  | ok fl =>
    cases fl with
    | ret u =>
      obtain ⟨v, H', I3, rv, ev, q3⟩ := I2.after hq'
      subst ev
      exact ⟨rv, ⟨V.ref (s.heap.objs.size + 1), H', I3, rfl, q3⟩⟩
    | next => exact False.elim hq'
    | brk => exact False.elim hq'
    | cont => exact False.elim hq'
theorem pe_make (M : Mk X.K C f) (F : FnOk X.prog X.w X.K X.mg X.base CX k f fd ps sp) (hr : Room (k + 1) X.A) (hg : Gl X x) (hm : X.mg x = some (.ref C)) (hb : Binds X.K fd ps ds) (hd : Vals dvs ds) (hx : Passes CX X E)
    (ha : PA X (e :: es) t) (hdb : (x == ("__debug__" : Str)) = false := by decide) (he : starEach (e :: es) X.env = (false, eval e X.env) :: starEach es X.env := by rfl) (hpl : (backTo pos (starEach es X.env)).any (·.1) = false := by rfl) :
    PE X (.Call (.Name x p) (e :: es) [] pos) (tMake C sp dvs E t) := by
  intro pins s σ H Q I h
  refine wpAny_Call_Name_kw (ld_glob I hg hm ?_ hdb)
  refine PySem.W.callWith_K (h₀ := X.base) I.ok.mod.kin M.kp (thn (ha pos pins s σ H _ I h) fun us s1 ⟨vs, H1, I1, r, q⟩ => ⟨I1.kIn, ?_⟩) he hpl
  exact run_make M F hr hb hd hx I1 r q
theorem pe_make0 (M : Mk X.K C f) (F : FnOk X.prog X.w X.K X.mg X.base CX k f fd ps sp) (hr : Room (k + 1) X.A) (hg : Gl X x) (hm : X.mg x = some (.ref C)) (hb : Binds X.K fd ps ds) (hd : Vals dvs ds) (hx : Passes CX X E)
    (hdb : (x == ("__debug__" : Str)) = false := by decide) : PE X (.Call (.Name x p) [] [] pos) (tMake C sp dvs E tNil) := by
  intro pins s σ H Q I h
  refine wpAny_Call_Name_kw (ld_glob I hg hm ?_ hdb)
  exact PySem.W.callWith_K0 I.kIn M.kp (run_make (us := []) M F hr hb hd hx I .nil h)
end
/-! ### keywords -/
section
variable {X : Cx} {CX : CXT} {k : Nat} {f C : Addr} {fd : FuncData} {ps ks : List Str} {sp : Sp} {E : XK} {x m : Str} {p pos apos kpos : Pos} {e o : Expr} {es : List Expr} {kws : List Keyword} {te ta : TE} {t tk : TA} {nm : Option Str}
variable {g : List Value → List Value → List Value} {gV : List V → List V → List V}
end
/-! ### a def's body keeps its promise -/
/-- names: the parameters first -/
structure FnScope (N P : List Str) (sc : Scope) : Prop where
  kind : sc.kind = .function
  co : sc.isCoroutine = false
  gen : sc.isGenerator = false
  nd : N.Nodup
  pre : N.take P.length = P
  par : ∀ x ∈ P, sc.names.lookup x = some .local ∨ sc.names.lookup x = some .cell
  nofree : ∀ y ∈ sc.names, y.2 ≠ .free
theorem bindL_out {kindOf : Str → Option NameKind} {x : Str} : ∀ {binds : List (Str × Value)} {m : Str → Option Value}, (∀ v, (x, v) ∉ binds) → bindL kindOf binds m x = m x
  | [], _, _ => rfl
  | (n, v) :: r, m, h => by
    unfold bindL
    rw [bindL_out fun w hw => h w (List.mem_cons_of_mem _ hw)]
    split
    · have : x ≠ n := by rintro rfl; exact h v List.mem_cons_self
      simp [this]
    · rfl
theorem bindC_out {kindOf : Str → Option NameKind} {x : Str} : ∀ {binds : List (Str × Value)} {m : Str → Option Value}, (∀ v, (x, v) ∉ binds) → bindC kindOf binds m x = m x
  | [], _, _ => rfl
  | (n, v) :: r, m, h => by
    unfold bindC
    rw [bindC_out fun w hw => h w (List.mem_cons_of_mem _ hw)]
    split
    · rfl
    · have : x ≠ n := by rintro rfl; exact h v List.mem_cons_self
      simp [this]
theorem bindL_get {kindOf : Str → Option NameKind} {x : Str} {v : Value} : ∀ {P : List Str} {vs : List Value} {i : Nat} {m : Str → Option Value}, P.Nodup → P[i]? = some x → vs[i]? = some v → kindOf x = some .local →
    bindL kindOf (P.zip vs) m x = some v
  | [], _, _, _, _, h, _, _ => by simp at h
  | _ :: _, [], _, _, _, _, h, _ => by simp at h
  | p :: P, w :: vs, 0, m, nd, h1, h2, hk => by
    simp at h1 h2; subst h1; subst h2
    show bindL kindOf ((p, w) :: P.zip vs) m p = _
    unfold bindL
    rw [bindL_out fun v hv => (List.nodup_cons.mp nd).1 (List.of_mem_zip hv).1, if_pos hk]
    simp
  | p :: P, w :: vs, i + 1, m, nd, h1, h2, hk => by
    show bindL kindOf ((p, w) :: P.zip vs) m x = _
    unfold bindL
    exact bindL_get (i := i) (List.nodup_cons.mp nd).2 (by simpa using h1) (by simpa using h2) hk
theorem bindC_get {kindOf : Str → Option NameKind} {x : Str} {v : Value} : ∀ {P : List Str} {vs : List Value} {i : Nat} {m : Str → Option Value}, P.Nodup → P[i]? = some x → vs[i]? = some v → kindOf x ≠ some .local →
    bindC kindOf (P.zip vs) m x = some v
  | [], _, _, _, _, h, _, _ => by simp at h
  | _ :: _, [], _, _, _, _, h, _ => by simp at h
  | p :: P, w :: vs, 0, m, nd, h1, h2, hk => by
    simp at h1 h2; subst h1; subst h2
    show bindC kindOf ((p, w) :: P.zip vs) m p = _
    unfold bindC
    rw [bindC_out fun v hv => (List.nodup_cons.mp nd).1 (List.of_mem_zip hv).1, if_neg hk]
    simp
  | p :: P, w :: vs, i + 1, m, nd, h1, h2, hk => by
    show bindC kindOf ((p, w) :: P.zip vs) m x = _
    unfold bindC
    exact bindC_get (i := i) (List.nodup_cons.mp nd).2 (by simpa using h1) (by simpa using h2) hk
/-- the names' values at the entry -/
def start (N : List Str) (vs : List V) : St := vs.map some ++ List.replicate (N.length - vs.length) none
/-- the context of a def's body, at its entry; an exception leaves the frame, then lies as CX says -/
def cxOf (CX : CXT) (P : Program) (w : World) (K : PySem.W.Frag) (mg : Str → Option Value) (base : Heap) (N : List Str) (qual : Str) (scope : Scope) (f : Addr) (cd : Value) (A : Around) (outer : List Env) (s : Shared) (H : Hp) (E : XK) : Cx where
  prog := P
  w := w
  K := K
  mg := mg
  base := base
  A := A.deeper (envOfC qual scope s.heap.objs.size f cd)
  N := N
  s_0 := s
  H_0 := H
  env := envOfC qual scope s.heap.objs.size f cd
  outer := outer
  stack := envOfC qual scope s.heap.objs.size f cd :: outer
  ex := []
  calm := true
  fn := fun _ => true
  pn := []
  xe := fun e s' => wpAny (model P w) (A.deeper (envOfC qual scope s.heap.objs.size f cd)) (leaving (envOfC qual scope s.heap.objs.size f cd) e) (fun _ s'' => CX outer H s E e s'') (fun e' s'' => CX outer H s E e' s'') s'
theorem cell_has {sc : Scope} {n : Nat} {x : Str} (h : sc.names.lookup x = some .cell) : ∃ c, (cellsFrom n sc.names []).lookup x = some c := by
  have q := PySem.W.cellsFrom_some sc.names n [] (.inl h)
  exact Option.isSome_iff_exists.mp q
theorem inv_start {CX : CXT} {P : Program} {w : World} {K : PySem.W.Frag} {mg : Str → Option Value} {base : Heap} {N ps : List Str} {qual : Str} {scope : Scope} {f : Addr} {cd : Value} {A : Around} {outer : List Env} {s s1 : Shared} {H : Hp} {E : XK} {us : List Value} {vs : List V}
    (S : FnScope N ps scope) (hd : A.handled = none) (e0 : Env0 P w K mg base A outer s H) (hl : vs.length = ps.length) (r : Vals vs us)
    (x : InCallC s s.heap.objs.size (bindL (envOfC qual scope s.heap.objs.size f cd).kindOf (ps.zip us) fun _ => none) (cellsFrom (s.heap.objs.size + 1) scope.names []) (bindC (envOfC qual scope s.heap.objs.size f cd).kindOf (ps.zip us) fun _ => none) s1) :
    Inv (cxOf CX P w K mg base N qual scope f cd A outer s H E) [] (start N vs) H s1 := by
  have hpl : ps.length ≤ N.length := by have := congrArg List.length S.pre; rw [List.length_take] at this; omega
  obtain ⟨h1, tk, rfl, hk⟩ := x.done
  have noA : ∀ b : Addr, b ∉ (cxOf CX P w K mg base N qual scope f cd A outer s H E).ex := fun b z => absurd (show b ∈ ([] : List Addr) from z) (by simp)
  refine ⟨⟨e0.mod, S.kind, rfl, rfl, Nat.le_refl _, fun y z c h1 h2 => ?_, fun y hy => ?_, fun y c _ h => ?_, fun _ => hd, Around.frames_deeper e0.frames, .inr ⟨rfl, rfl⟩, fun b z => absurd z (noA b), e0.bs, e0.bsz, fun b _ _ => noA b, fun b z => absurd z (noA b), e0.funs, e0.frf⟩,
    rfl, e0.bare, Un.kept hk, ⟨_, x.toInCall.ns, fun i y v h1 h2 h3 => ?_⟩, fun y c h => ⟨_, x.cell y c h⟩, e0.hok.fresh (Nat.le_refl _), fun y c h => ?_, fun p hp => absurd (show p ∈ ([] : List (Addr × Obj)) from hp) (by simp), e0.hok.kept hk, ?_⟩
  · exact name_of_addr x.apart (PySem.mem_of_lookup h1) (PySem.mem_of_lookup h2)
  · have hy : scope.names.lookup y = some .cell ∨ scope.names.lookup y = some .free := hy
    rcases hy with hy | hy
    · exact cell_has hy
    · exact absurd rfl (S.nofree _ (PySem.mem_of_lookup hy))
  · exact Nat.le_of_lt (x.above y c (PySem.mem_of_lookup h))
  · have hi : i < vs.length := by
      unfold start at h2
      by_cases hi : i < vs.length
      · exact hi
      · rw [List.getElem?_append_right (by simpa using hi)] at h2
        rw [List.getElem?_replicate] at h2
        split at h2 <;> cases h2
    have ha : vs[i]? = some v := by
      unfold start at h2
      rw [List.getElem?_append_left (by simpa using hi), List.getElem?_map] at h2
      cases e : vs[i]? with
      | none => rw [e] at h2; cases h2
      | some a => rw [e] at h2; cases h2; rfl
    obtain ⟨u, hu, rv⟩ := r.get ha
    have hp : ps[i]? = some y := by
      rw [← S.pre, List.getElem?_take_of_lt (by omega)]; exact h1
    have ndP : ps.Nodup := by rw [← S.pre]; exact S.nd.sublist (List.take_sublist _ _)
    refine ⟨u, rv, ?_⟩
    rcases S.par y (List.mem_of_getElem? hp) with k | k
    · exact .inl ⟨k, bindL_get ndP hp hu k⟩
    · obtain ⟨c, e⟩ := cell_has (n := s.heap.objs.size + 1) k
      refine .inr ⟨.inl k, c, e, ?_⟩
      have q := x.cell y c e
      rw [bindC_get ndP hp hu (by show scope.names.lookup y ≠ _; rw [k]; decide)] at q
      exact q
  · exact e0.hok.fresh (Nat.le_of_lt (x.above y c (PySem.mem_of_lookup h)))
  · unfold start
    show _ = N.length
    rw [List.length_append, List.length_map, List.length_replicate]
    omega
/-- THE RULE: a def (or a method) of the text, by its body. The body's reading t is chosen for each entry; it is run at the parameters' values -/
theorem fn_of {CX : CXT} {P : Program} {w : World} {K : PySem.W.Frag} {mg : Str → Option Value} {base : Heap} {k : Nat} {f : Addr} {name qual : Str} {params : Arguments} {body : List Stmt} {scope : Scope} {dV kV doc pm cdv ct oc : Value} {an od : Option Addr}
    {osl : Array (Option Value)} {N ps : List Str} {sp : Sp} (lk : K.lookup f = some ⟨oc, od, .func (PySem.W.fnOf name qual params body scope dV kV doc pm an cdv ct), osl⟩) (hcd : PySem.W.codeIn K cdv qual = true) (S : FnScope N ps scope)
    (len : ∀ vs H Q E, sp vs H Q E → vs.length = ps.length)
    (hbody : ∀ (A : Around) (outer : List Env) (s : Shared) (H : Hp) (vs : List V) (Q : VK) (E : XK), Room k (A.deeper (envOfC qual scope s.heap.objs.size f cdv)) → sp vs H Q E →
      ∃ t, PSs (cxOf CX P w K mg base N qual scope f cdv A outer s H E) body t ∧ t { nx := fun _ H' => Q .non H', rt := Q } (start N vs) H) :
    FnOk P w K mg base CX (k + 1) f (PySem.W.fnOf name qual params body scope dV kV doc pm an cdv ct) ps sp := by
  refine ⟨len, fun A outer s H args us vs Q E hr e0 hb r hsp => ?_⟩
  have hl := len _ _ _ _ hsp
  have KX : K.In s.heap := e0.mod.kin.keeps fun b o e => (e0.bs b o e).1
  have lim : s.heap.NoLimit := e0.mod.nolimit.keeps fun b o e => (e0.bs b o e).1
  have hkind : ∀ y ∈ ps.zip us, scope.names.lookup y.1 = some .local ∨ (scope.names.lookup y.1 = some .cell ∧ ((cellsFrom (s.heap.objs.size + 1) scope.names []).lookup y.1).isSome = true) := fun ⟨n, v⟩ hy => by
    rcases S.par n (List.of_mem_zip hy).1 with q | q
    · exact .inl q
    · exact .inr ⟨q, PySem.W.cellsFrom_some _ _ _ (.inl q)⟩
  refine codeAny_call_function hr.depth (KX _ _ lk) rfl S.co S.gen rfl (PySem.W.codeRec_of KX hcd) (hb _ _ _ _ ?_)
  refine wpAny_newFunctionEnv_cells S.kind hkind fun env he s1 x => ?_
  subst he
  refine ⟨lim.keeps x.toInCall.keep, codeAny_func ?_⟩
  obtain ⟨t, ht, hq⟩ := hbody A outer s H vs Q E (hr.deeper _) hsp
  have I : Inv (cxOf CX P w K mg base N qual scope f cdv A outer s H E) [] (start N vs) H s1 := inv_start S hr.hd e0 hl r x
  refine wpAny_mono (ht [] s1 (start N vs) H _ I hq) (fun fl s' hs => ?_) fun e s' hs => hs
  have fin : ∀ {σ' : St} {H' : Hp} {v : V} {u : Value}, Inv (cxOf CX P w K mg base N qual scope f cdv A outer s H E) [] σ' H' s' → RelV v u → Q v H' → CE outer P w H s Q u s' :=
    fun {σ' H' v u} J rv q => ⟨v, H', J.os, J.bare, J.base, J.hok, rv, q⟩
  cases fl with
  | ret u =>
    obtain ⟨v, σ', H', J, rv, q⟩ := hs
    exact fin J rv q
  | next =>
    obtain ⟨σ', H', J, q⟩ := hs
    exact fin (v := V.non) (u := Value.none) J rfl q
  | brk =>
    obtain ⟨_, _, _, q⟩ := hs
    exact False.elim q
  | cont =>
    obtain ⟨_, _, _, q⟩ := hs
    exact False.elim q
end L2
namespace L2
open PySem PySem.Spec PyProof.Rows
section
variable {X : Cx} {x : Str} {p pos : Pos} {e : Expr} {es : List Expr} {t : TA} {id T : String} {r : List V → Hp → VK → Prop}
def tCB (r : List V → Hp → VK → Prop) (t : TA) : TE := fun σ H Q => t σ H fun vs H1 => r vs H1 Q
/-- f(e, ..), f a built-in function -/
theorem pe_callB (hc : CallR X (.builtin id) r) (hg : Gl X x) (hm : X.mg x = none) (hv : bootBuiltins x = some (.builtin id)) (ha : PA X (e :: es) t) (hn : x ≠ "__name__" := by decide) (hdb : (x == ("__debug__" : Str)) = false := by decide)
    (he : starEach (e :: es) X.env = (false, eval e X.env) :: starEach es X.env := by rfl) (hpl : (backTo pos (starEach es X.env)).any (·.1) = false := by rfl) : PE X (.Call (.Name x p) (e :: es) [] pos) (tCB r t) := by
  intro pins s σ H Q I h
  refine wpAny_Call_Name_kw (ld_blt I hg hm hv ?_ hn hdb)
  exact PyProof.Rows.callWith_builtin1 (thn (ha pos pins s σ H _ I h) fun us s1 ⟨vs, H1, I1, r1, q1⟩ => hc pins s1 σ H1 vs us Q I1 r1 q1) he hpl
/-- T(e, ..), T a built-in type -/
theorem pe_callTy (hc : CallR X (.type T) r) (hg : Gl X x) (hm : X.mg x = none) (hv : bootBuiltins x = some (.type T)) (ha : PA X (e :: es) t) (hn : x ≠ "__name__" := by decide) (hdb : (x == ("__debug__" : Str)) = false := by decide)
    (he : starEach (e :: es) X.env = (false, eval e X.env) :: starEach es X.env := by rfl) (hpl : (backTo pos (starEach es X.env)).any (·.1) = false := by rfl) : PE X (.Call (.Name x p) (e :: es) [] pos) (tCB r t) := by
  intro pins s σ H Q I h
  refine wpAny_Call_Name_kw (ld_blt I hg hm hv ?_ hn hdb)
  exact PyProof.Rows.callWith_type1 (thn (ha pos pins s σ H _ I h) fun us s1 ⟨vs, H1, I1, r1, q1⟩ => hc pins s1 σ H1 vs us Q I1 r1 q1) he hpl
end
end L2
namespace HT
open PySem PyProof.Rows
section
open PySem.SeqAt
open PySem.AutoSeq1 (wpAny_loadPart')
open PySem.MeetsSeq PySem.MeetsSeq2 PySem.MeetsSeq3
end
section
variable {prog : Program} {w : World} {A : Around} {E : Value → Shared → Prop} {s : Shared}
/-- t + u, t not empty -/
theorem cat_tup {t b : Addr} {vs ws : List Value} {Q : Value → Shared → Prop} (ht : IsTup s.heap t vs.toArray) (hb : IsTup s.heap b ws.toArray) (hv : vs ≠ [])
    (h1 : ws = [] → Q (.ref t) s) (h2 : ws ≠ [] → Q (.ref s.heap.objs.size) { s with heap := s.heap.push { cls := .type "tuple", data := .seq (vs ++ ws).toArray } })
    (hsz : vs.length + ws.length ≤ sizeLine) : wpAny (model prog w) A (binaryOp .Add (.ref t) (.ref b)) Q E s := by
  obtain ⟨⟨cls, dd, data, sl⟩, ho, hc, n, hd⟩ := id ht
  obtain ⟨⟨cls2, dd2, data2, sl2⟩, ho2, hc2, n2, hd2⟩ := id hb
  simp only at hc hd hc2 hd2
  subst hc hd hc2 hd2
  have e : vs.toArray ++ ws.toArray = (vs ++ ws).toArray := by simp
  by_cases hw : ws = []
  · exact concat_meets ⟨_, ho, rfl⟩ ⟨_, ho2, rfl⟩ noFill_tuple_add seq_tuple_add PySem.F.slot_tuple_add PySem.F.entry_tuple_add (PySem.F.args_tuple_add_2 _ _)
      (tuple_addW1 t b vs.toArray ws.toArray n n2 dd dd2 sl sl2 (by simpa using hv) (by simp [hw])) ⟨ho, ho2, h1 hw⟩
  · refine concat_meets ⟨_, ho, rfl⟩ ⟨_, ho2, rfl⟩ noFill_tuple_add seq_tuple_add PySem.F.slot_tuple_add PySem.F.entry_tuple_add (PySem.F.args_tuple_add_2 _ _)
      (tuple_addW2 t b vs.toArray ws.toArray n n2 dd dd2 sl sl2 (by simpa using hv) (by simpa using hw) (by rw [List.size_toArray, List.size_toArray]; exact hsz)) ⟨ho, ho2, ?_⟩
    rw [e]
    exact h2 hw
/-! ### t[a:b], not the whole -/
/-- a slice's bound as a place among n (d where it is left out) -/
def sIx (n d : Nat) : Option Int → Nat
  | none => d
  | some v => if v < 0 then (v + (n : Int)).toNat else min v.toNat n
theorem sIx_nat (n d k : Nat) : sIx n d (some (k : Int)) = min k n := by
  show (if (k : Int) < 0 then ((k : Int) + (n : Int)).toNat else min (k : Int).toNat n) = min k n
  rw [if_neg (by omega), Int.toNat_natCast]
theorem sIx_le (n d : Nat) (hd : d ≤ n) (o : Option Int) : sIx n d o ≤ n := by
  cases o with
  | none => exact hd
  | some v =>
    show (if v < 0 then (v + (n : Int)).toNat else min v.toNat n) ≤ n
    by_cases hv : v < 0
    · rw [if_pos hv]; omega
    · rw [if_neg hv]; exact Nat.min_le_right _ _
theorem clip_eq (v : Int) (n d : Nat) : (if v < 0 then max (v + (n : Int)) 0 else min v (n : Int)) = ((sIx n d (some v) : Nat) : Int) := by
  show (if v < 0 then max (v + (n : Int)) 0 else min v (n : Int)) = (((if v < 0 then (v + (n : Int)).toNat else min v.toNat n) : Nat) : Int)
  by_cases hv : v < 0
  · simp only [if_pos hv]; omega
  · simp only [if_neg hv]; omega
theorem adjust_gen (lo hi : Option Int) (n : Nat) : Builtin.Slice.sliceAdjust lo hi 1 (n : Int) = (((sIx n 0 lo : Nat) : Int), ((sIx n n hi : Nat) : Int)) := by
  have h1 : ¬ ((1 : Int) < 0) := by omega
  unfold Builtin.Slice.sliceAdjust
  simp only [h1, if_false]
  refine Prod.ext ?_ ?_
  · cases lo with
    | none => rfl
    | some v => exact clip_eq v n 0
  · cases hi with
    | none => rfl
    | some v => exact clip_eq v n n
theorem places_gen (i j : Nat) : Builtin.Slice.slicePlaces (i : Int) (j : Int) 1 = j - i := by
  unfold Builtin.Slice.slicePlaces
  have h1 : (1 : Int) > 0 := by omega
  simp only [h1, if_true, Int.ediv_one]
  split <;> omega
theorem slicePart_ {v : Value} {o : Option Int} {Q : Option Int → Shared → Prop} (p : IsPart v o) (h : Q o s) : wpAny (model prog w) A (Builtin.Slice.slicePartIndex v) Q E s := by
  cases p with
  | none => exact slicePart_none h
  | int i t => exact slicePart_int h
theorem sliceApplied_gen {sl : Addr} {vl vu : Value} {lo hi : Option Int} {n : Nat} {Q : Int × Int × Nat → Shared → Prop} (hs : s.heap.IsSliceOf sl vl vu .none) (pl : IsPart vl lo) (pu : IsPart vu hi)
    (h : Q (((sIx n 0 lo : Nat) : Int), 1, sIx n n hi - sIx n 0 lo) s) : wpAny (model prog w) A (Builtin.Slice.sliceApplied (.ref sl) (pure (n : Int))) Q E s := by
  obtain ⟨os, hos, hcs, hds⟩ := id hs
  unfold Builtin.Slice.sliceApplied Builtin.Slice.sliceFields
  refine wpAny_bind (wpAny_bind (wpAny_field hos hds (x := vl) rfl (wpAny_bind (wpAny_field hos hds (x := vu) rfl (wpAny_bind (wpAny_field hos hds (x := .none) rfl (wpAny_pure ?_)))))))
  refine wpAny_bind (slicePart_none ?_)
  show wpAny _ _ (if ((1 : Int) == 0) = true then _ else _) _ _ s
  rw [if_neg (by decide)]
  refine wpAny_bind (slicePart_ pl (wpAny_bind (slicePart_ pu (wpAny_bind (wpAny_pure ?_)))))
  show wpAny _ _ (match Builtin.Slice.sliceAdjust lo hi 1 (n : Int) with | (lo, hi) => pure (lo, (1 : Int), Builtin.Slice.slicePlaces lo hi 1)) _ _ s
  rw [adjust_gen lo hi n]
  show wpAny _ _ (pure (((sIx n 0 lo : Nat) : Int), (1 : Int), Builtin.Slice.slicePlaces ((sIx n 0 lo : Nat) : Int) ((sIx n n hi : Nat) : Int) 1)) _ _ s
  rw [places_gen]
  exact wpAny_pure h
theorem pick_gen (xs : Array Value) (i k : Nat) : ((List.range k).filterMap fun (m : Nat) => xs[((i : Int) + (m : Int) * 1).toNat]?).toArray = ((xs.toList.drop i).take k).toArray := by
  have e : (fun (m : Nat) => xs[((i : Int) + (m : Int) * 1).toNat]?) = fun m => xs[i + m]? := by
    funext m
    have : ((i : Int) + (m : Int) * 1).toNat = i + m := by omega
    rw [this]
  rw [e]
  have := pick_run xs i k
  rw [List.filterMap_map] at this
  have e2 : ((fun x => xs[x]?) ∘ fun x => i + x) = fun m => xs[i + m]? := rfl
  rw [e2] at this
  rw [this]
theorem getItem_tuple_cut {t sl : Addr} {items : Array Value} {vl vu : Value} {lo hi : Option Int} {Q : Value → Shared → Prop} (ht : IsTup s.heap t items) (hs : s.heap.IsSliceOf sl vl vu .none) (pl : IsPart vl lo) (pu : IsPart vu hi)
    (hw : ¬ (sIx items.size 0 lo = 0 ∧ sIx items.size items.size hi = items.size))
    (h : Q (.ref s.heap.objs.size) { s with heap := s.heap.push { cls := .type "tuple", data := .seq ((items.toList.drop (sIx items.size 0 lo)).take (sIx items.size items.size hi - sIx items.size 0 lo)).toArray } })
    (hsz : items.size ≤ sizeLine) : wpAny (model prog w) A (getItem (.ref t) (.ref sl)) Q E s := by
  have htake : sizeOk (.seq ((items.toList.drop (sIx items.size 0 lo)).take (sIx items.size items.size hi - sIx items.size 0 lo)).toArray) := by
    show ((items.toList.drop (sIx items.size 0 lo)).take (sIx items.size items.size hi - sIx items.size 0 lo)).toArray.size ≤ sizeLine
    rw [List.size_toArray, List.length_take, List.length_drop, Array.length_toList]
    omega
  have hj : sIx items.size items.size hi ≤ items.size := sIx_le _ _ (Nat.le_refl _) hi
  obtain ⟨os, hos, hcs, hds⟩ := id hs
  have hTs : s.TypeIs (.ref sl) "slice" := ⟨os, hos, hcs⟩
  unfold getItem
  try with_reducible refine wpAny_holding ?_
  first | refine wpAny_bind (wpAny_pure ?_) | skip
  refine wpAny_bind (wpAny_sequenceKey ht.typeIs (by decide) ?_)
  refine wpAny_bind (wpAny_callSpecial?_slot (name := Str.ofString "__getitem__") ht.typeIs PyProof.Rows.slot_tuple_getitem
    (wpAny_call_entry PyProof.Rows.slot_tuple_getitem ht.typeIs entry_tuple_getitem ?_ (args_tuple_getitem _ _)))
  show wpAny _ _ (Builtin.Tuple.tupleItemsOf (.ref t) >>= _) _ _ s
  refine wpAny_bind (tupleItemsOf_ ht ?_)
  refine wpAny_bind (wpAny_typeOf hTs ?_)
  rw [if_pos (by decide)]
  refine wpAny_bind (sliceApplied_gen hs pl pu ?_)
  have hno : ¬ ((((sIx items.size 0 lo : Nat) : Int) == 0 && (1 : Int) == 1 && (sIx items.size items.size hi - sIx items.size 0 lo) == items.size) = true) := by
    intro q
    rw [Bool.and_eq_true, Bool.and_eq_true] at q
    have q1 : ((sIx items.size 0 lo : Nat) : Int) = 0 := eq_of_beq q.1.1
    have q2 : sIx items.size items.size hi - sIx items.size 0 lo = items.size := eq_of_beq q.2
    exact hw ⟨by omega, by omega⟩
  show wpAny _ _ (if (((sIx items.size 0 lo : Nat) : Int) == 0 && (1 : Int) == 1 && (sIx items.size items.size hi - sIx items.size 0 lo) == items.size) = true then _ else _) _ _ s
  rw [if_neg hno, pick_gen]
  first
    | exact wpAny_bind (m := Builtin.Tuple.tupleExact _) (wpAny_newObj_type (wpAny_pure ⟨_, rfl, wpAny_pure h⟩) htake)
    | exact wpAny_bind (m := Builtin.Tuple.tupleExact _) (wpAny_newObj_type (wpAny_bind (wpAny_pure (wpAny_pure ⟨_, rfl, wpAny_pure h⟩))) htake)
    | exact wpAny_bind (wpAny_bind (m := Builtin.Tuple.tupleExact _) (wpAny_newObj_type (wpAny_pure (wpAny_pure ⟨_, rfl, wpAny_pure h⟩)) htake))
    | exact wpAny_bind (wpAny_bind (m := Builtin.Tuple.tupleExact _) (wpAny_newObj_type (wpAny_pure ⟨_, rfl, wpAny_pure h⟩) htake))
end
end HT
namespace L2
open PySem PySem.Spec PyProof.Rows
/-! ### the parts of a slice -/
abbrev TO := St → Hp → (Option Int → Hp → Prop) → Prop
/-- a slice's part (left out, or an int) -/
def PO (X : Cx) (e : Option Expr) (t : TO) : Prop :=
  ∀ (pins : List (Addr × Obj)) (s : Shared) (σ : St) (H : Hp) (Q : Option Int → Hp → Prop), Inv X pins σ H s → t σ H Q →
    wpAny (model X.prog X.w) X.A (evalPart e X.env) (fun u s' => ∃ o H', Inv X pins σ H' s' ∧ IsPart u o ∧ Q o H') X.xe s
def tNoPart : TO := fun _ H Q => Q none H
def tPart (t : TE) : TO := fun σ H Q => t σ H fun x H1 => ∃ i, x = .int i ∧ Q (some i) H1
section
variable {X : Cx} {e : Expr} {te : TE} {lo hi : Option Expr} {tl th : TO} {pos p2 : Pos}
theorem po_none : PO X none tNoPart := by
  intro pins s σ H Q I h
  rw [evalPart_none]
  exact wpAny_pure ⟨none, H, I, .none, h⟩
theorem po_some (h : PE X e te) : PO X (some e) (tPart te) := by
  intro pins s σ H Q I hw
  rw [evalPart_some]
  refine thn (h pins s σ H _ I hw) fun u s1 ⟨x, H1, I1, r1, q1⟩ => ?_
  obtain ⟨i, rfl, q⟩ := q1
  obtain ⟨t, rfl⟩ := r1
  exact ⟨some i, H1, I1, .int i t, q⟩
/-- what a slice of a value is, by values: the slice object stands at sl -/
def SlR (X : Cx) (r : V → Option Int → Option Int → Hp → VK → Prop) : Prop :=
  ∀ (pins : List (Addr × Obj)) (s : Shared) (σ : St) (H : Hp) (x : V) (v vl vu : Value) (lo hi : Option Int) (sl : Addr) (Q : VK), Inv X pins σ H s → RelV x v → s.heap.IsSliceOf sl vl vu .none → IsPart vl lo → IsPart vu hi → r x lo hi H Q →
    ∃ T id, typeLookup (.type T) "__getitem__" = pure (some (.builtin id)) ∧ s.TypeIs v T ∧ wpAny (model X.prog X.w) X.A (getItem v (.ref sl)) (EP X pins σ Q) X.xe s
def tSl (r : V → Option Int → Option Int → Hp → VK → Prop) (te : TE) (tl th : TO) : TE := fun σ H Q => te σ H fun x H1 => tl σ H1 fun l H2 => th σ H2 fun u H3 => r x l u H3 Q
/-- a[lo:hi], any a -/
theorem pe_slice {r : V → Option Int → Option Int → Hp → VK → Prop} (hr : SlR X r) (he : PE X e te) (hl : PO X lo tl) (hu : PO X hi th) : PE X (.Subscript e (.Slice lo hi none p2) pos) (tSl r te tl th) := by
  intro pins s σ H Q I h
  refine Subscript_ (thn (he pins s σ H _ I h) fun v s1 ⟨x, H1, I1, r1, q1⟩ => ?_)
  refine wpAny_Slice (thn (hl pins s1 σ H1 _ I1 q1) fun vl s2 ⟨l, H2, I2, pl, q2⟩ => thn (hu pins s2 σ H2 _ I2 q2) fun vu s3 ⟨u, H3, I3, pu, q3⟩ => ?_)
  rw [evalPart_none]
  refine wpAny_pure ?_
  have I4 : Inv X pins σ H3 { s3 with heap := s3.heap.push { cls := .type "slice", data := .fields #[vl, vu, .none] } } := I3.kept (t' := s3.toks) fun b ob q => Heap.get?_push_of_some _ q
  obtain ⟨T, id, hT, ht, hg⟩ := hr pins { s3 with heap := s3.heap.push { cls := .type "slice", data := .fields #[vl, vu, .none] } } σ H3 x v vl vu l u s3.heap.objs.size Q I4 r1 (Heap.IsSliceOf.new ..) pl pu q3
  show wpAny (model X.prog X.w) X.A (subscriptTail e (.Slice lo hi none p2) v (.ref s3.heap.objs.size)) (EP X pins σ Q) X.xe { s3 with heap := s3.heap.push { cls := .type "slice", data := .fields #[vl, vu, .none] } }
  exact tail_any (ops := [.ref s3.heap.objs.size, v]) ht hT hg (by with_unfolding_all rfl)
/-- the items of xs[lo:hi] -/
def cutV (xs : List V) (lo hi : Option Int) : List V := (xs.drop (HT.sIx xs.length 0 lo)).take (HT.sIx xs.length xs.length hi - HT.sIx xs.length 0 lo)
theorem cutV_length (xs : List V) (lo hi : Option Int) : (cutV xs lo hi).length ≤ xs.length := by
  unfold cutV
  rw [List.length_take, List.length_drop]
  omega
/-- t[lo:hi], not the whole of it (the whole would be t itself) -/
def rSlT (K : PySem.W.Frag) : V → Option Int → Option Int → Hp → VK → Prop := fun x lo hi H Q => ∃ a xs, x = .ref a ∧ SqT K H a xs ∧
  ¬ (HT.sIx xs.length 0 lo = 0 ∧ HT.sIx xs.length xs.length hi = xs.length) ∧ ∀ p, H p = none → Q (.ref p) (upd H p (.tup (cutV xs lo hi)))
theorem sl_tup : SlR X (rSlT X.K) := by
  intro pins s σ H x v vl vu lo hi sl Q I rx hs pl pu h
  obtain ⟨a, xs, rfl, hx, hw, q⟩ := h
  cases rx
  obtain ⟨its, r, ht, hz⟩ := I.tuple hx
  have hlen : its.toArray.size = xs.length := by rw [List.size_toArray]; exact r.length.symm
  refine ⟨"tuple", _, PyProof.Rows.slot_tuple_getitem.lookup, ht.typeIs, ?_⟩
  refine HT.getItem_tuple_cut ht hs pl pu (by rw [hlen]; exact hw) ?_ (by rw [hlen]; exact hz)
  rw [hlen]
  refine ⟨.ref s.heap.objs.size, _, I.laid (t' := s.toks) (o := .tup (cutV xs lo hi)) (fun b ob q => Heap.get?_push_of_some _ q) (Nat.le_refl _) ?_, rfl, q _ (I.hok.fresh (Nat.le_refl _))⟩
  exact ⟨Nat.le_trans (cutV_length xs lo hi) hz, _, (r.drop (HT.sIx xs.length 0 lo)).take (HT.sIx xs.length xs.length hi - HT.sIx xs.length 0 lo), IsTup.new _ _⟩
/-! ### t < u, t + u -/
/-- t + u, t not empty: u empty gives t itself -/
def rCatT (K : PySem.W.Frag) : R2 := fun x y H Q => ∃ a b xs ys, x = .ref a ∧ y = .ref b ∧ SqT K H a xs ∧ SqT K H b ys ∧ xs ≠ [] ∧ xs.length + ys.length ≤ sizeLine ∧
  (ys = [] → Q (.ref a) H) ∧ (ys ≠ [] → ∀ p, H p = none → Q (.ref p) (upd H p (.tup (xs ++ ys))))
theorem Vals.nil_iff {xs : List V} {us : List Value} (r : Vals xs us) : us = [] ↔ xs = [] := by
  cases r with
  | nil => simp
  | cons _ _ => simp
theorem op_catT : OpR X (binaryOp .Add) (rCatT X.K) := by
  intro pins s σ H x y v u Q I rx ry h
  obtain ⟨a, b, xs, ys, rfl, rfl, ha, hb, hx, hz, q1, q2⟩ := h
  cases rx
  cases ry
  obtain ⟨its, r1, p1, _⟩ := I.tuple ha
  obtain ⟨its2, r2, p2, _⟩ := I.tuple hb
  refine HT.cat_tup p1 p2 (fun z => hx (r1.nil_iff.mp z)) (fun z => ⟨.ref a, H, I, rfl, q1 (r2.nil_iff.mp z)⟩) (fun z => ?_) (by rw [← r1.length, ← r2.length]; exact hz)
  refine ⟨.ref s.heap.objs.size, _, I.laid (t' := s.toks) (o := .tup (xs ++ ys)) (fun b ob q => Heap.get?_push_of_some _ q) (Nat.le_refl _) ?_, rfl, q2 (fun w => z (r2.nil_iff.mpr w)) _ (I.hok.fresh (Nat.le_refl _))⟩
  exact ⟨by rw [List.length_append]; exact hz, _, r1.append r2, IsTup.new _ _⟩
end
end L2
namespace L2
open PySem PySem.Spec PyProof.Rows
/-! ### places -/
/-- the place that an index of any sign means -/
def ixN (n : Nat) (i : Int) : Option Nat := if 0 ≤ i then (if i < n then some i.toNat else none) else if -(n : Int) ≤ i then some (i + n).toNat else none
def atI {α : Type} (xs : List α) (i : Int) : Option α := (ixN xs.length i).bind fun j => xs[j]?
theorem ixN_seq {n : Nat} {i : Int} {j : Nat} (h : ixN n i = some j) : seqIndex? i n = some j ∧ j < n ∧ -(n : Int) ≤ i ∧ i < n := by
  unfold ixN at h
  by_cases h0 : 0 ≤ i
  · rw [if_pos h0] at h
    by_cases h1 : i < n
    · rw [if_pos h1] at h
      have e : i.toNat = j := Option.some.inj h
      exact ⟨by rw [seqIndex_of h0 h1, e], by omega, by omega, h1⟩
    · rw [if_neg h1] at h; cases h
  · rw [if_neg h0] at h
    by_cases h1 : -(n : Int) ≤ i
    · rw [if_pos h1] at h
      have e : (i + n).toNat = j := Option.some.inj h
      exact ⟨by rw [seqIndex_neg (by omega) h1, e], by omega, h1, by omega⟩
    · rw [if_neg h1] at h; cases h
theorem atI_get {α : Type} {xs : List α} {i : Int} {v : α} (h : atI xs i = some v) : ∃ j, seqIndex? i xs.length = some j ∧ xs[j]? = some v ∧ j < xs.length ∧ -(xs.length : Int) ≤ i ∧ i < xs.length := by
  unfold atI at h
  cases e : ixN xs.length i with
  | none => rw [e] at h; cases h
  | some j =>
    rw [e] at h
    obtain ⟨h1, h2, h3, h4⟩ := ixN_seq e
    exact ⟨j, h1, h, h2, h3, h4⟩
theorem atI_nat {α : Type} {xs : List α} {j : Nat} {v : α} (h : xs[j]? = some v) : atI xs (j : Int) = some v := by
  have hj : j < xs.length := (List.getElem?_eq_some_iff.mp h).1
  have e : ixN xs.length (j : Int) = some j := by
    unfold ixN
    rw [if_pos (by omega), if_pos (by omega)]; simp
  unfold atI; rw [e]; exact h
/-! ### what may be subscripted -/
/-- what stands as an index of a plain subscript -/
def PlainIx (b : Expr) : Prop := ∀ o i, subscripted b false o i = operate [o, i] (getItem o i)
/-- a subscript by values -/
def IxR (X : Cx) (r : R2) : Prop :=
  ∀ (value slice : Expr) (pins : List (Addr × Obj)) (s : Shared) (σ : St) (H : Hp) (x y : V) (v u : Value) (Q : VK), Inv X pins σ H s → RelV x v → RelV y u → r x y H Q →
    subscripted slice false v u = operate [v, u] (getItem v u) → wpAny (model X.prog X.w) X.A (subscriptTail value slice v u) (EP X pins σ Q) X.xe s
/-- a call of a builtin's method by values: the receiver, the arguments -/
def MtR (X : Cx) (id : String) (r : V → List V → Hp → VK → Prop) : Prop :=
  ∀ (pins : List (Addr × Obj)) (s : Shared) (σ : St) (H : Hp) (x : V) (xs : List V) (v : Value) (us : List Value) (Q : VK), Inv X pins σ H s → RelV x v → Vals xs us → r x xs H Q →
    wpAny (model X.prog X.w) X.A (call (.builtin id) (v :: us)) (EP X pins σ Q) X.xe s
section
variable {X : Cx} {a b : Expr} {ta tb : TE} {pos : Pos}
/-- a[b] -/
theorem pe_ix {r : R2} (hr : IxR X r) (ha : PE X a ta) (hb : PE X b tb) (hs : PlainIx b) : PE X (.Subscript a b pos) (tOp r ta tb) := by
  intro pins s σ H Q I h
  exact Subscript_ (binT ha hb I h fun v u s2 x y H2 I2 rx ry q => hr a b pins s2 σ H2 x y v u Q I2 rx ry q (hs _ _))
def rIxL (K : PySem.W.Frag) : R2 := fun x y H Q => ∃ p xs i v, x = .ref p ∧ y = .int i ∧ SqL K H p xs ∧ atI xs i = some v ∧ Q v H
def rIxT (K : PySem.W.Frag) : R2 := fun x y H Q => ∃ p xs i v, x = .ref p ∧ y = .int i ∧ SqT K H p xs ∧ atI xs i = some v ∧ Q v H
theorem ix_list : IxR X (rIxL X.K) := by
  intro value slice pins s σ H x y v u Q I rx ry h hs
  obtain ⟨p, xs, i, z, rfl, rfl, hq, he, q⟩ := h
  cases rx
  obtain ⟨t, rfl⟩ := ry
  obtain ⟨its, r, pl, hz⟩ := I.list hq
  obtain ⟨j, h1, h2, h3, h4, h5⟩ := atI_get he
  obtain ⟨w, ew, rw'⟩ := r.get h2
  have hl := r.length
  have hn := line63
  have fin : EP X pins σ Q w s := ⟨z, H, I, rw', q⟩
  by_cases h0 : 0 ≤ i
  · have hj : i.toNat = j := by
      rw [seqIndex_of h0 h5] at h1
      exact Option.some.inj h1
    exact item_listR pl.isList h0 (by omega) (by rw [hj]; simpa using ew) fin hs
  · have hj : (i + (its.toArray.size : Int)).toNat = j := by
      rw [seqIndex_neg (by omega) h4] at h1
      rw [List.size_toArray, ← hl]
      exact Option.some.inj h1
    exact subscriptTail_builtinR (x := w) pl.isList.typeIs slot_list_getitem.lookup
      (wpAny_getItem_list_neg (Q := fun r s' => r = w ∧ EP X pins σ Q r s') pl.isList (by omega) (by rw [List.size_toArray] <;> omega) (by omega) (by rw [hj]; simpa using ew) ⟨rfl, fin⟩) hs
theorem ix_tup : IxR X (rIxT X.K) := by
  intro value slice pins s σ H x y v u Q I rx ry h hs
  obtain ⟨p, xs, i, z, rfl, rfl, hq, he, q⟩ := h
  cases rx
  obtain ⟨t, rfl⟩ := ry
  obtain ⟨its, r, pl, hz⟩ := I.tuple hq
  obtain ⟨j, h1, h2, h3, h4, h5⟩ := atI_get he
  obtain ⟨w, ew, rw'⟩ := r.get h2
  have hl := r.length
  have hn := line63
  have fin : EP X pins σ Q w s := ⟨z, H, I, rw', q⟩
  exact subscriptTail_builtinR (x := w) pl.typeIs slot_tuple_getitem.lookup
    (getItem_tuple (j := j) (Q := fun r s' => r = w ∧ EP X pins σ Q r s') pl (by omega) (by omega) (by rw [List.size_toArray, ← hl]; exact h1) (by simpa using ew) ⟨rfl, fin⟩) hs
/-! ### xs[i] = v, any sign -/
/-- the list's object behind a store -/
theorem mapSeq_set (its : List Value) (n j : Nat) (u : Value) : Obj.mapSeq (·.setIfInBounds j u) { cls := .type "list", data := .seq its.toArray n } = { cls := .type "list", data := .seq (its.set j u).toArray n } := by
  simp [Obj.mapSeq]
theorem Inv.lst {pins : List (Addr × Obj)} {σ : St} {H : Hp} {s : Shared} {p : Addr} {xs : List V} (I : Inv X pins σ H s) (h : H p = some (.lst xs)) :
    ∃ (its : List Value) (n : Nat), Vals xs its ∧ s.heap.get? p = some { cls := .type "list", data := .seq its.toArray n } ∧ xs.length ≤ sizeLine := by
  obtain ⟨z, its, n, r, e⟩ := I.hok p _ h
  exact ⟨its, n, r, e, z⟩
/-- the list at p is written by an update of its object -/
theorem Inv.lstUpd {pins : List (Addr × Obj)} {σ : St} {H : Hp} {s : Shared} {p : Addr} {xs ys : List V} {its its' : List Value} {n n' : Nat} {f : Obj → Obj} (I : Inv X pins σ H s) (h : H p = some (.lst xs))
    (ho : s.heap.get? p = some { cls := .type "list", data := .seq its.toArray n }) (hf : f { cls := .type "list", data := .seq its.toArray n } = { cls := .type "list", data := .seq its'.toArray n' }) (r : Vals ys its') (hz : ys.length ≤ sizeLine) (t : Nat) :
    Inv X pins σ (upd H p (.lst ys)) { s with heap := s.heap.update p f, toks := t } := by
  have e : (s.heap.update p f).get? p = some { cls := .type "list", data := .seq its'.toArray n' } := by
    rw [Heap.get?_update_self f ho (by rw [hf] <;> rfl), hf]
  refine I.write (x := p) (e := p) (by rw [h]; trivial) (.inl rfl) (fun b u hb q => (Heap.get?_update_other _ _ (Ne.symm hb)).trans q) ⟨_, e⟩ ?_
  exact ⟨hz, its', n', r, e⟩
def rSetL : V → V → V → Hp → (Hp → Prop) → Prop := fun o i v H Q => ∃ p xs k j, o = .ref p ∧ i = .int k ∧ H p = some (.lst xs) ∧ ixN xs.length k = some j ∧ Q (upd H p (.lst (xs.set j v)))
theorem set_list : PSet X rSetL := by
  intro pins s σ H o i v ov iv u Q I ro ri rv h
  obtain ⟨p, xs, k, j, rfl, rfl, hp, hj, q⟩ := h
  cases ro
  obtain ⟨t, rfl⟩ := ri
  obtain ⟨its, n, r, ho, hz⟩ := I.lst hp
  obtain ⟨h1, h2, h3, h4⟩ := ixN_seq hj
  have hl := r.length
  have hn := line63
  have I' : Inv X pins σ (upd H p (.lst (xs.set j v))) { s with heap := s.heap.update p (Obj.mapSeq (·.setIfInBounds j u)) } :=
    I.lstUpd hp ho (mapSeq_set its n j u) (r.set rv j) (by rw [List.length_set]; exact hz) s.toks
  by_cases h0 : 0 ≤ k
  · have hk : k.toNat = j := by
      rw [seqIndex_of h0 h4] at h1
      exact Option.some.inj h1
    exact PySem.W.ki_setAt ho h0 (by omega) (by rw [List.size_toArray, ← hl]; exact h4) (by rw [hk]; exact ⟨_, I', q⟩)
  · have hk : (k + (its.toArray.size : Int)).toNat = j := by
      rw [seqIndex_neg (by omega) h3] at h1
      rw [List.size_toArray, ← hl]
      exact Option.some.inj h1
    exact PySem.W.ki_setBack ho (by omega) (by rw [List.size_toArray, ← hl]; exact h3) (by omega) (by rw [hk]; exact ⟨_, I', q⟩)
/-! ### slices -/
theorem slice_bounds (lo hi : Option Int) (n : Nat) : (sliceBounds lo hi none n).1 = ((HT.sIx n 0 lo : Nat) : Int) ∧ (sliceBounds lo hi none n).2.1 = ((HT.sIx n n hi : Nat) : Int) ∧ (sliceBounds lo hi none n).2.2 = 1 := by
  refine ⟨?_, ?_, rfl⟩
  · cases lo with
    | none => simp [sliceBounds, HT.sIx]
    | some i =>
      simp only [sliceBounds, HT.sIx, Option.getD_none, show (1 : Int) > 0 by decide, if_true]
      by_cases h : i < 0
      · simp only [h, if_true] <;> omega
      · simp only [h, if_false] <;> omega
  · cases hi with
    | none => simp [sliceBounds, HT.sIx]
    | some i =>
      simp only [sliceBounds, HT.sIx, Option.getD_none, show (1 : Int) > 0 by decide, if_true]
      by_cases h : i < 0
      · simp only [h, if_true] <;> omega
      · simp only [h, if_false] <;> omega
theorem slicePick_cut (its : List Value) (lo hi : Option Int) : slicePick its.toArray lo hi none = ((its.drop (HT.sIx its.length 0 lo)).take (HT.sIx its.length its.length hi - HT.sIx its.length 0 lo)).toArray := by
  obtain ⟨h1, h2, h3⟩ := slice_bounds lo hi its.toArray.size
  unfold slicePick
  rw [h1, h2, h3]
  simp only [sliceRange_one, pick_run, List.size_toArray] <;> rfl
/-- xs[lo:hi] of a list: a new list -/
def rSlL (K : PySem.W.Frag) : V → Option Int → Option Int → Hp → VK → Prop := fun x lo hi H Q => ∃ a xs, x = .ref a ∧ SqL K H a xs ∧ ∀ p, H p = none → Q (.ref p) (upd H p (.lst (cutV xs lo hi)))
theorem sl_list : SlR X (rSlL X.K) := by
  intro pins s σ H x v vl vu lo hi sl Q I rx hs pl pu h
  obtain ⟨a, xs, rfl, hx, q⟩ := h
  cases rx
  obtain ⟨its, r, ht, hz⟩ := I.list hx
  have hlen := r.length
  refine ⟨"list", _, slot_list_getitem.lookup, ht.isList.typeIs, ?_⟩
  refine wpAny_getItem_list_slice ht.isList hs pl pu .none (by simp) ?_ (by rw [List.size_toArray] <;> omega)
  rw [slicePick_cut, ← hlen]
  refine ⟨.ref s.heap.objs.size, _, I.laid (t' := s.toks) (o := .lst (cutV xs lo hi)) (fun b ob q => Heap.get?_push_of_some _ q) (Nat.le_refl _) ?_, rfl, q _ (I.hok.fresh (Nat.le_refl _))⟩
  exact ⟨Nat.le_trans (cutV_length xs lo hi) hz, _, 0, (r.drop (HT.sIx xs.length 0 lo)).take (HT.sIx xs.length xs.length hi - HT.sIx xs.length 0 lo), Heap.get?_push_size _ rfl⟩
/-! ### in, not in: flat items -/
/-! ### len, list(x), tuple(x) of any list or tuple that is read -/
theorem call_len_seq : CallR X (.builtin "len") (fun xs H Q => ∃ p ys, xs = [.ref p] ∧ (SqL X.K H p ys ∨ SqT X.K H p ys) ∧ Q (.int ys.length) H) := by
  intro pins s σ H xs us Q I r h
  obtain ⟨p, ys, rfl, hq, q⟩ := h
  obtain ⟨u, rfl, rx⟩ := vals1 r
  cases rx
  have hn := line63
  rcases hq with hq | hq
  · obtain ⟨its, r', pl, hz⟩ := I.list hq
    have hlen := r'.length
    exact Calls.call_len_list pl.isList (by simp only [List.size_toArray] <;> omega) ⟨.int ys.length, H, I.tok _, ⟨s.toks + 1, by rw [List.size_toArray, hlen]⟩, q⟩
  · obtain ⟨its, r', pl, hz⟩ := I.tuple hq
    have hlen := r'.length
    exact len_tuple pl (by simp only [List.size_toArray] <;> omega) ⟨.int ys.length, H, I.tok _, ⟨s.toks + 1, by rw [List.size_toArray, hlen]⟩, q⟩
theorem call_list_of : CallR X (.type "list") (fun xs H Q => ∃ p ys, xs = [.ref p] ∧ (SqL X.K H p ys ∨ SqT X.K H p ys) ∧ ∀ l, H l = none → Q (.ref l) (upd H l (.lst ys))) := by
  intro pins s σ H xs us Q I r h
  obtain ⟨p, ys, rfl, hq, q⟩ := h
  obtain ⟨u, rfl, rx⟩ := vals1 r
  cases rx
  have fin : ∀ (its : List Value), Vals ys its → ys.length ≤ sizeLine → ∀ (h' : Heap) (c' : Nat), (∀ b o', s.heap.get? b = some o' → h'.get? b = some o') →
      h'.get? s.heap.objs.size = some { cls := .type "list", dict := none, data := .seq its.toArray c', slots := #[] } → EP X pins σ Q (.ref s.heap.objs.size) { s with heap := h' } := fun its r' hz h' c' kp e =>
    ⟨.ref s.heap.objs.size, _, I.laid (t' := s.toks) kp (Nat.le_refl _) (show ObjOk X.prog X.w _ h' _ (.lst ys) from ⟨hz, its, c', r', e⟩), rfl, q _ (I.hok.fresh (Nat.le_refl _))⟩
  rcases hq with hq | hq
  · obtain ⟨its, r', pl, hz⟩ := I.list hq
    have hlen := r'.length
    obtain ⟨o, ho, hc, n, hd⟩ := pl.isList
    exact call_list_seq p (.inl rfl) ho hc hd (fun h' c' kp e => fin its r' hz h' c' kp e) (by simp only [List.size_toArray] <;> omega)
  · obtain ⟨its, r', pl, hz⟩ := I.tuple hq
    have hlen := r'.length
    obtain ⟨o, ho, hc, n, hd⟩ := pl
    exact call_list_seq p (.inr rfl) ho hc hd (fun h' c' kp e => fin its r' hz h' c' kp e) (by simp only [List.size_toArray] <;> omega)
theorem call_tuple_of : CallR X (.type "tuple") (fun xs H Q => ∃ p ys, xs = [.ref p] ∧ ((SqL X.K H p ys ∧ ∀ l, H l = none → Q (.ref l) (upd H l (.tup ys))) ∨ (SqT X.K H p ys ∧ Q (.ref p) H))) := by
  intro pins s σ H xs us Q I r h
  obtain ⟨p, ys, rfl, h⟩ := h
  obtain ⟨u, rfl, rx⟩ := vals1 r
  cases rx
  rcases h with ⟨hq, q⟩ | ⟨hq, q⟩
  · obtain ⟨its, r', pl, hz⟩ := I.list hq
    have hlen := r'.length
    refine call_tuple_list pl.isList (fun h' kp => ?_) (by simp only [List.size_toArray] <;> omega)
    have I1 : Inv X pins σ H { s with heap := h' } := I.kept (t' := s.toks) kp
    have I2 : Inv X pins σ (upd H h'.objs.size (.tup ys)) { s with heap := h'.push { cls := .type "tuple", data := .seq its.toArray } } :=
      I1.laid (t' := s.toks) (fun b o e => Heap.get?_push_of_some _ e) (Nat.le_refl _) (show ObjOk X.prog X.w _ _ _ (.tup ys) from ⟨hz, its, r', IsTup.new _ _⟩)
    exact ⟨.ref h'.objs.size, _, I2, rfl, q _ (I1.hok.fresh (Nat.le_refl _))⟩
  · obtain ⟨its, r', pl, hz⟩ := I.tuple hq
    exact call_tuple_same pl ⟨.ref p, H, I, rfl, q⟩
/-! ### the call of a builtin's method: o.m(..) -/
/-- the value is of that builtin type -/
def tyV (K : PySem.W.Frag) (T : String) (x : V) (H : Hp) : Prop := match x with
  | .str _ => T = "str"
  | .int _ => T = "int"
  | .ref p => (T = "list" ∧ ∃ xs, SqL K H p xs) ∨ (T = "tuple" ∧ ∃ o, K.lookup p = some o ∧ o.cls = .type "tuple" ∧ o.dict = none) ∨
      (T = "dict" ∧ ((∃ kvs, H p = some (.dK kvs)) ∨ ∃ kvs, H p = some (.dT kvs))) ∨ (T = "set" ∧ ∃ S n, H p = some (.set S n))
  | _ => False
theorem tyV_is {pins : List (Addr × Obj)} {σ : St} {H : Hp} {s : Shared} {T : String} {x : V} {v : Value} (I : Inv X pins σ H s) (r : RelV x v) (ty : tyV X.K T x H) :
    s.TypeIs v T ∧ ∀ a, v = .ref a → ∃ ob, s.heap.get? a = some ob ∧ ob.dict = none := by
  cases x with
  | str z =>
    obtain ⟨t, rfl⟩ := r
    cases (show T = "str" from ty)
    exact ⟨typeIs_str s z t, fun _ e => nomatch e⟩
  | int i =>
    obtain ⟨t, rfl⟩ := r
    cases (show T = "int" from ty)
    exact ⟨typeIs_int s i t, fun _ e => nomatch e⟩
  | ref p =>
    cases r
    rcases ty with ⟨rfl, xs, hq⟩ | ⟨rfl, o, hk, hc, hd⟩ | ⟨rfl, hk⟩ | ⟨rfl, S, n, hk⟩
    · obtain ⟨its, _, pl, _⟩ := I.list hq
      refine ⟨pl.isList.typeIs, fun a e => ?_⟩
      cases e
      obtain ⟨o, n, e, c, hd, _⟩ := pl
      exact ⟨o, e, hd⟩
    · refine ⟨⟨o, I.kIn p o hk, hc⟩, fun a e => ?_⟩
      cases e
      exact ⟨o, I.kIn _ o hk, hd⟩
    · have z : ∃ o, s.heap.get? p = some o ∧ o.ExactDict := by
        rcases hk with ⟨kvs, hk⟩ | ⟨kvs, hk⟩
        · obtain ⟨_, _, _, _, o, _, _, e, ex, _⟩ := I.hok p _ hk
          exact ⟨o, e, ex⟩
        · obtain ⟨_, _, _, _, o, _, _, e, ex, _⟩ := I.hok p _ hk
          exact ⟨o, e, ex⟩
      obtain ⟨o, e, ex⟩ := z
      refine ⟨⟨o, e, ex.1⟩, fun a e2 => ?_⟩
      cases e2
      exact ⟨o, e, ex.2.1⟩
    · obtain ⟨o, _, _, _, e, ex, _⟩ := I.hok p _ hk
      refine ⟨⟨o, e, ex.1⟩, fun a e2 => ?_⟩
      cases e2
      exact ⟨o, e, ex.2.1⟩
  | _ => exact False.elim ty
def tBM0 (K : PySem.W.Frag) (T : String) (r : V → List V → Hp → VK → Prop) (to : TE) : TE := fun σ H Q => to σ H fun x H1 => tyV K T x H1 ∧ r x [] H1 Q
def tBM (K : PySem.W.Frag) (T : String) (r : V → List V → Hp → VK → Prop) (to : TE) (t : TA) : TE := fun σ H Q => to σ H fun x H1 => tyV K T x H1 ∧ t σ H1 fun xs H2 => r x xs H2 Q
variable {o e : Expr} {es : List Expr} {to : TE} {t : TA} {name : Str} {apos cpos : Pos} {T id : String} {r : V → List V → Hp → VK → Prop}
theorem pe_bm0 (pa : PlainAttrs T) (slot : Slot T name id) (hty : typeOf (.builtin id) = pure (.type "method_descriptor")) (hm : MtR X id r) (ho : PE X o to)
    (hbase : attributeBase o name X.env (eval o X.env) = eval o X.env := by rfl) (hline : (apos.endLine == cpos.line) = true := by rfl) : PE X (.Call (.Attribute o name apos) [] [] cpos) (tBM0 X.K T r to) := by
  intro pins s σ H Q I h
  refine wpAny_Call_method0_late hbase hline (thn (ho pins s σ H _ I h) fun v s1 ⟨x, H1, I1, r1, ty, q1⟩ => ?_)
  obtain ⟨h1, h2⟩ := tyV_is I1 r1 ty
  exact ⟨T, id, pa, slot, hty, h1, h2, Calls.callWith_builtin rfl (PySem.evalArgs_none (hm pins s1 σ H1 x [] v [] Q I1 r1 .nil q1))⟩
theorem pe_bm (pa : PlainAttrs T) (slot : Slot T name id) (hty : typeOf (.builtin id) = pure (.type "method_descriptor")) (hm : MtR X id r) (ho : PE X o to) (ha : PA X (e :: es) t)
    (hbase : attributeBase o name X.env (eval o X.env) = eval o X.env := by rfl)
    (hfew : ((backTo cpos (starEach (e :: es) X.env)).all (fun x => !x.1) && (backToKw cpos (keywordEach [] X.env)).all (fun x => x.1.isSome)
      && decide ((e :: es).length + ([] : List Keyword).length + (if ([] : List Keyword).isEmpty then 0 else 1) < 30)) = true := by rfl)
    (hline : (apos.endLine == cpos.line) = true := by rfl) (hs : starEach (e :: es) X.env = (false, eval e X.env) :: starEach es X.env := by rfl) (hplain : (backTo cpos (starEach es X.env)).any (·.1) = false := by rfl) :
    PE X (.Call (.Attribute o name apos) (e :: es) [] cpos) (tBM X.K T r to t) := by
  intro pins s σ H Q I h
  refine wpAny_Call_method_late hbase hfew hline rfl (thn (ho pins s σ H _ I h) fun v s1 ⟨x, H1, I1, r1, ty, q1⟩ => ?_)
  obtain ⟨h1, h2⟩ := tyV_is I1 r1 ty
  refine ⟨T, id, pa, slot, hty, h1, h2, ?_⟩
  have hA := ha cpos pins s1 σ H1 _ I1 q1
  rw [hs] at hA ⊢
  refine Calls.callWith_builtin (by show (false || (backTo cpos (starEach es X.env)).any (·.1)) = false; rw [hplain] <;> rfl) (Calls.evalArgs_plain ?_)
  exact thn hA fun us s2 ⟨vs, H2, I2, r2, q2⟩ => hm pins s2 σ H2 x vs v us Q I2 r1 r2 q2
/- xs.append(e), list.index on a module's tuple .. are MtR facts of 06m -/
end
end L2
namespace L2
open PySem PySem.Spec PyProof.Rows
def MtM (X : Cx) (id : String) (r : V → List V → Hp → VK → Prop) : Prop :=
  ∀ (pins : List (Addr × Obj)) (s : Shared) (σ : St) (H : Hp) (x : V) (xs : List V) (v : Value) (us : List Value) (Q : VK), Inv X pins σ H s → RelV x v → Vals xs us → r x xs H Q →
    wpAny (model X.prog X.w) X.A (call (.builtin id) (v :: us)) (EP X pins σ Q) X.xe s
/-! ### lists of values -/
theorem Vals.one : ∀ {x : V} {us : List Value}, Vals [x] us → ∃ u, us = [u] ∧ RelV x u
  | _, _, .cons r .nil => ⟨_, rfl, r⟩
section
variable {X : Cx} {pins : List (Addr × Obj)} {σ : St} {H : Hp} {s : Shared} {l b : Addr} {xs ys zs : List V}
/-! ### the two steps: a tracked list is rewritten, a new list is laid -/
theorem Inv.lset {its its' : List Value} {n : Nat} {f : Array Value → Array Value} {t' : Nat} (I : Inv X pins σ H s) (hH : H l = some (.lst xs))
    (e : s.heap.get? l = some { cls := .type "list", data := .seq its.toArray n }) (hf : f its.toArray = its'.toArray) (hv : Vals ys its') (hz : ys.length ≤ sizeLine) :
    Inv X pins σ (upd H l (.lst ys)) { s with heap := s.heap.update l (Obj.mapSeq f), toks := t' } := by
  have q := PySem.IsL.update e f
  rw [hf] at q
  refine I.write (x := l) (e := l) (by rw [hH]; exact trivial) (.inl rfl) (fun b' u hb hu => (Heap.get?_update_other s.heap (Obj.mapSeq f) (Ne.symm hb)).trans hu) ⟨_, q⟩ ?_
  exact ⟨hz, its', _, hv, q⟩
theorem Inv.lnew {its : List Value} {t' : Nat} (I : Inv X pins σ H s) (hv : Vals ys its) (hz : ys.length ≤ sizeLine) :
    Inv X pins σ (upd H s.heap.objs.size (.lst ys)) { s with heap := s.heap.push { cls := .type "list", data := .seq its.toArray }, toks := t' } :=
  I.laid (fun _ _ q => Heap.get?_push_of_some _ q) (Nat.le_refl _) ⟨hz, its, 0, hv, Heap.get?_push_size _ rfl⟩
theorem Inv.fresh (I : Inv X pins σ H s) : H s.heap.objs.size = none := I.hok.fresh (Nat.le_refl _)
theorem Inv.lstM (I : Inv X pins σ H s) (hH : H l = some (.lst xs)) : xs.length ≤ sizeLine ∧ ∃ (its : List Value) (n : Nat), Vals xs its ∧ xs.length = its.length ∧ s.heap.get? l = some { cls := .type "list", data := .seq its.toArray n } := by
  obtain ⟨z, its, n, r, e⟩ := I.hok l _ hH
  exact ⟨z, its, n, r, r.length, e⟩
theorem notLongL {n : Nat} (h : n ≤ sizeLine) : Builtin.List.listTooLong n = false := by
  unfold Builtin.List.listTooLong
  exact decide_eq_false (by omega)
end
section
variable {X : Cx}
/-! ### methods -/
def rAppend : V → List V → Hp → VK → Prop := fun x vs H Q => ∃ l xs y, x = .ref l ∧ vs = [y] ∧ H l = some (.lst xs) ∧ xs.length < sizeLine ∧ Q .non (upd H l (.lst (xs ++ [y])))
theorem mt_append : MtM X "list.append" rAppend := by
  intro pins s σ H x vs v us Q I rx rv h
  obtain ⟨l, xs, y, rfl, rfl, hH, hz, q⟩ := h
  cases rx
  obtain ⟨u, rfl, ru⟩ := rv.one
  obtain ⟨z, its, n, r, hl, e⟩ := I.lstM hH
  refine call_meets F.slot_list_append ⟨_, e, rfl⟩ F.entry_list_append (F.args_list_append_2 _ _) (PySem.list_append l its.toArray n u (by rw [List.size_toArray]; omega)) ⟨e, ?_⟩
  refine ⟨.non, _, I.lset (its' := its ++ [u]) hH e (by simp) (r.append (.cons ru .nil)) ?_, rfl, q⟩
  rw [List.length_append, List.length_singleton]
  omega
def rExtend : V → List V → Hp → VK → Prop := fun x vs H Q => ∃ l b xs zs, x = .ref l ∧ vs = [.ref b] ∧ H l = some (.lst xs) ∧ H b = some (.lst zs) ∧ xs.length + zs.length ≤ sizeLine ∧ Q .non (upd H l (.lst (xs ++ zs)))
theorem mt_extend : MtM X "list.extend" rExtend := by
  intro pins s σ H x vs v us Q I rx rv h
  obtain ⟨l, b, xs, zs, rfl, rfl, hH, hB, hz, q⟩ := h
  cases rx
  obtain ⟨u, rfl, ru⟩ := rv.one
  cases ru
  obtain ⟨z, its, n, r, hl, e⟩ := I.lstM hH
  obtain ⟨z2, its2, n2, r2, hl2, e2⟩ := I.lstM hB
  have hsz : its.toArray.size + its2.toArray.size ≤ sizeLine := by rw [List.size_toArray, List.size_toArray]; omega
  have hlong : ¬ (!its.toArray.isEmpty && Builtin.List.listTooLong (its.toArray.size + its2.toArray.size)) = true := by
    rw [notLongL hsz, Bool.and_false]
    exact Bool.false_ne_true
  refine call_meets F.slot_list_extend ⟨_, e, rfl⟩ F.entry_list_extend (F.args_list_extend_2 _ _)
    (AutoSeq1.list_extend_list_list_0 l its.toArray n b its2.toArray n2 hlong (by rw [List.size_toArray]; omega) (by omega)) ⟨e, e2, ?_⟩
  refine ⟨.non, _, I.lset (its' := its ++ its2) hH e (by simp) (r.append r2) ?_, rfl, q⟩
  rw [List.length_append]
  omega
/-! ### list + list, list += list, list * int -/
def rCat : R2 := fun x y H Q => ∃ l b xs zs, x = .ref l ∧ y = .ref b ∧ H l = some (.lst xs) ∧ H b = some (.lst zs) ∧ xs.length + zs.length ≤ sizeLine ∧ ∀ p, H p = none → Q (.ref p) (upd H p (.lst (xs ++ zs)))
theorem op_cat : OpR X (binaryOp .Add) rCat := by
  intro pins s σ H x y v u Q I rx ry h
  obtain ⟨l, b, xs, zs, rfl, rfl, hH, hB, hz, q⟩ := h
  cases rx
  cases ry
  obtain ⟨z, its, n, r, hl, e⟩ := I.lstM hH
  obtain ⟨z2, its2, n2, r2, hl2, e2⟩ := I.lstM hB
  refine PySem.P.add_list e e2 ?_ (by rw [List.size_toArray, List.size_toArray]; omega)
  have ea : its.toArray ++ its2.toArray = (its ++ its2).toArray := by simp
  rw [ea]
  exact ⟨.ref _, _, I.lnew (t' := s.toks) (r.append r2) (by rw [List.length_append]; omega), rfl, q _ I.fresh⟩
/-! ### del xs[i] -/
end
/-! ### xs[a:b] = ys -/
section
variable {prog : Program} {w : World} {A : Around} {E : Value → Shared → Prop} {s : Shared}
set_option maxRecDepth 100000 in
end
section
variable {X : Cx}
end
end L2
namespace L2
open PySem PySem.Spec PyProof.Rows
theorem Vals.ints : ∀ {ns : List Int} {us : List Value}, Vals (ns.map V.int) us → IntsAre us ns
  | [], us, h => by
    rw [List.map_nil] at h
    cases h
    exact IntsAre.nil
  | n :: ns, us, h => by
    rw [List.map_cons] at h
    cases h with
    | cons r t =>
      obtain ⟨k, rfl⟩ := r
      exact IntsAre.cons n k (Vals.ints t)
theorem Vals.bls : ∀ {bs : List Bool} {us : List Value}, Vals (bs.map V.bl) us → us = bs.map Value.bool
  | [], us, h => by
    rw [List.map_nil] at h
    cases h
    rfl
  | b :: bs, us, h => by
    rw [List.map_cons] at h
    cases h with
    | cons r t =>
      cases r
      rw [Vals.bls t, List.map_cons]
theorem Vals.ref1 {a : Addr} {us : List Value} (r : Vals [V.ref a] us) : us = [Value.ref a] := by
  cases r with
  | cons r t =>
    cases t
    cases r
    rfl
/-! ### the library's walks over a list of ints, kept objects alone -/
section
variable {prog : Program} {w : World} {A : Around} {E : Value → Shared → Prop} {s : Shared} {l : Addr} {its : List Value} {ns : List Int} {Q : Value → Shared → Prop}
theorem max_raw (hh : A.handled = none) (hl : s.heap.IsList l its.toArray) (hi : IntsAre its ns) (hne : 0 < ns.length)
    (h : ∀ h' tk M t', (∀ b o, s.heap.get? b = some o → h'.get? b = some o) → M ∈ ns → (∀ a, a ∈ ns → a ≤ M) → Q (.int M t') { s with heap := h', toks := tk }) : wpAny (model prog w) A (call (.builtin "max") [.ref l]) Q E s := by
  obtain ⟨xs, e⟩ := hi.allInts.items
  have hn : numsOf (intItems xs).toList = ns := by rw [← e]; exact hi.numsOf
  rw [nums_intItems] at hn
  subst hn
  rw [e] at hl
  have hsz : 0 < xs.size := by simpa using hne
  refine PySem.max_intList hh hl hsz fun v h' tk hv hk => ?_
  obtain ⟨t, rfl⟩ := intItems_at hv
  obtain ⟨h1, h2⟩ := argBest_gt (numAt xs) (xs.size - 1)
  refine h h' tk _ t hk ?_ fun a ha => ?_
  · rw [numAt_eq]; exact PySem.getD_mem (by rw [List.length_map, Array.length_toList]; omega)
  · obtain ⟨j, hj, rfl⟩ := mem_getD ha
    rw [List.length_map, Array.length_toList] at hj
    rw [← numAt_eq]; exact h2 j (by omega)
theorem min_raw (hh : A.handled = none) (hl : s.heap.IsList l its.toArray) (hi : IntsAre its ns) (hne : 0 < ns.length)
    (h : ∀ h' tk M t', (∀ b o, s.heap.get? b = some o → h'.get? b = some o) → M ∈ ns → (∀ a, a ∈ ns → M ≤ a) → Q (.int M t') { s with heap := h', toks := tk }) : wpAny (model prog w) A (call (.builtin "min") [.ref l]) Q E s := by
  obtain ⟨xs, e⟩ := hi.allInts.items
  have hn : numsOf (intItems xs).toList = ns := by rw [← e]; exact hi.numsOf
  rw [nums_intItems] at hn
  subst hn
  rw [e] at hl
  have hsz : 0 < xs.size := by simpa using hne
  refine PySem.min_intList hh hl hsz fun v h' tk hv hk => ?_
  obtain ⟨t, rfl⟩ := intItems_at hv
  obtain ⟨h1, h2⟩ := argBest_lt (numAt xs) (xs.size - 1)
  refine h h' tk _ t hk ?_ fun a ha => ?_
  · rw [numAt_eq]; exact PySem.getD_mem (by rw [List.length_map, Array.length_toList]; omega)
  · obtain ⟨j, hj, rfl⟩ := mem_getD ha
    rw [List.length_map, Array.length_toList] at hj
    rw [← numAt_eq]; exact h2 j (by omega)
end
/-! ### the calls, by values (CallR of 03t; MtR of 06l) -/
section
variable {X : Cx}
/-- max(xs), min(xs) of a list of ints -/
def rMax (K : PySem.W.Frag) : List V → Hp → VK → Prop := fun vs H Q => ∃ (a : Addr) (ns : List Int), vs = [V.ref a] ∧ SqL K H a (ns.map V.int) ∧ 0 < ns.length ∧ ∀ m, m ∈ ns → (∀ y, y ∈ ns → y ≤ m) → Q (.int m) H
def rMin (K : PySem.W.Frag) : List V → Hp → VK → Prop := fun vs H Q => ∃ (a : Addr) (ns : List Int), vs = [V.ref a] ∧ SqL K H a (ns.map V.int) ∧ 0 < ns.length ∧ ∀ m, m ∈ ns → (∀ y, y ∈ ns → m ≤ y) → Q (.int m) H
theorem cr_max (hc : X.calm = true) : CallR X (.builtin "max") (rMax X.K) := by
  intro pins s σ H vs us Q I r h
  obtain ⟨a, ns, rfl, hs, hne, q⟩ := h
  obtain ⟨its, rv, hl, _⟩ := I.list hs
  rw [Vals.ref1 r]
  exact max_raw (I.ok.hd hc) hl.isList rv.ints hne fun h' tk m t' hk h1 h2 => ⟨.int _, H, I.kept hk, ⟨_, rfl⟩, q m h1 h2⟩
theorem cr_min (hc : X.calm = true) : CallR X (.builtin "min") (rMin X.K) := by
  intro pins s σ H vs us Q I r h
  obtain ⟨a, ns, rfl, hs, hne, q⟩ := h
  obtain ⟨its, rv, hl, _⟩ := I.list hs
  rw [Vals.ref1 r]
  exact min_raw (I.ok.hd hc) hl.isList rv.ints hne fun h' tk m t' hk h1 h2 => ⟨.int _, H, I.kept hk, ⟨_, rfl⟩, q m h1 h2⟩
/-! sorted, sort (fewer than 64 items: the library's own bound) -/
end
/-! ### list.index, flat items -/
section
variable {X : Cx}
end
/-! ### type(x) of an own instance; is, is not of a module's class -/
section
variable {X : Cx}
end
/-! ### any(xs), all(xs) of a list of bools -/
theorem iter_any {prog : Program} {w : World} {A : Around} {E : Value → Shared → Prop} {s : Shared} {l : Addr} {items : Array Value} {Q : Value → Shared → Prop} (hl : s.heap.IsList l items)
    (h : ∀ s₂ : Shared, s₂ = { s with heap := s.heap.push { cls := .type "list_iterator", data := .fields #[.ref l, .int 0 0] } } →
      (s₂.heap.IsListIter s.heap.objs.size l 0 ∧ s₂.heap.IsList l items) → l ≠ s.heap.objs.size → Q (.ref s.heap.objs.size) s₂) : wpAny (model prog w) A (pyIter (.ref l)) Q E s := by
  have hlt : l < s.heap.objs.size := by obtain ⟨_, e, _⟩ := hl; exact Heap.lt_size e
  exact wpAny_pyIter_list hl (h _ rfl ⟨⟨_, Heap.get?_push_size _ rfl, rfl, rfl⟩, hl.push _⟩ (Nat.ne_of_lt hlt))
theorem truth_bools {prog : Program} {w : World} {A : Around} {bs : List Bool} {its : List Value} (e : its = bs.map Value.bool) :
    TruthOf prog w A (fun i v => its.toArray[i]? = some v) (fun i => bs.getD i false) := fun i v s Q E hv hq => by
  have hv' : its[i]? = some v := by simpa using hv
  rw [e, List.getElem?_map] at hv'
  obtain ⟨b, hb, rfl⟩ := Option.map_eq_some_iff.mp hv'
  have hg : bs.getD i false = b := by rw [List.getD_eq_getElem?_getD, hb] <;> rfl
  have hq' : Q (bs.getD i false) s := hq
  rw [hg] at hq'
  exact wpAny_truthy_bool hq'
theorem any_range : ∀ bs : List Bool, (List.range bs.length).any (fun i => bs.getD i false) = bs.any id
  | [] => rfl
  | b :: bs => by
    rw [List.length_cons, List.range_succ_eq_map, List.any_cons, List.any_map, List.any_cons, ← any_range bs]
    all_goals rfl
section
variable {X : Cx}
def rAny (K : PySem.W.Frag) : List V → Hp → VK → Prop := fun vs H Q => ∃ (a : Addr) (bs : List Bool), vs = [V.ref a] ∧ SqL K H a (bs.map V.bl) ∧ Q (.bl (bs.any id)) H
theorem cr_any (hc : X.calm = true) : CallR X (.builtin "any") (rAny X.K) := by
  intro pins s σ H vs us Q I r h
  obtain ⟨a, bs, rfl, hs, q⟩ := h
  obtain ⟨its, rv, hl, _⟩ := I.list hs
  rw [Vals.ref1 r]
  have hb := rv.bls
  refine call_any_walk (iter_any hl.isList fun s₂ e2 st hne => ?_)
  subst e2
  refine ⟨_, _, _, _, _, _, _, rfl, Walks.list (A := X.A.in1) (I.ok.hd hc) _ a hne its.toArray, st, truth_bools hb, fun h' tk hk => ?_⟩
  refine ⟨.bl _, H, I.kept fun b o eo => hk b o (fun hmem => ?_) (Heap.get?_push_of_some _ eo), ?_, q⟩
  · rcases List.mem_cons.mp hmem with e1 | hmem
    · exact absurd (e1 ▸ Heap.lt_size eo) (Nat.lt_irrefl _)
    · cases hmem
  · show Value.bool _ = Value.bool _
    rw [← any_range, hb, List.size_toArray, List.length_map]
end
/-! ### == and != of data at any depth: none, bools, ints, texts, lists, tuples -/
mutual
inductive Dp (K : PySem.W.Frag) (H : Hp) : V → PyData → Prop
  | non : Dp K H .non .none
  | bl (b : Bool) : Dp K H (.bl b) (.bool b)
  | int (i : Int) : Dp K H (.int i) (.int i)
  | str (x : Str) : Dp K H (.str x) (.str x)
  | lst {a : Addr} {xs : List V} {ds : List PyData} : SqL K H a xs → DpAll K H xs ds → Dp K H (.ref a) (.list ds)
  | tup {a : Addr} {xs : List V} {ds : List PyData} : SqT K H a xs → DpAll K H xs ds → Dp K H (.ref a) (.tuple ds)
inductive DpAll (K : PySem.W.Frag) (H : Hp) : List V → List PyData → Prop
  | nil : DpAll K H [] []
  | cons {v : V} {vs : List V} {d : PyData} {ds : List PyData} : Dp K H v d → DpAll K H vs ds → DpAll K H (v :: vs) (d :: ds)
end
section
variable {X : Cx} {pins : List (Addr × Obj)} {σ : St} {H : Hp} {s : Shared}
mutual
theorem Dp.reads (I : Inv X pins σ H s) : ∀ (d : PyData) (v : V) (u : Value), Dp X.K H v d → RelV v u → ∃ as, Reads s.heap u d as
  | .none, _, _, h, r => by
    cases h
    cases r
    exact ⟨_, Reads.none⟩
  | .bool b, _, _, h, r => by
    cases h
    cases r
    exact ⟨_, Reads.bool b⟩
  | .int i, _, _, h, r => by
    cases h
    obtain ⟨t, rfl⟩ := r
    exact ⟨_, Reads.int i t⟩
  | .str x, _, _, h, r => by
    cases h
    obtain ⟨t, rfl⟩ := r
    exact ⟨_, Reads.str x t⟩
  | .list ds, _, _, h, r => by
    cases h with
    | lst hs ha =>
      cases r
      obtain ⟨its, rv, ⟨o, n, ho, hc, _, hd⟩, _⟩ := I.list hs
      obtain ⟨as, hr⟩ := Dp.readsAll I ds _ its ha rv
      exact ⟨_, Reads.list ho hc hd hr⟩
  | .tuple ds, _, _, h, r => by
    cases h with
    | tup hs ha =>
      cases r
      obtain ⟨its, rv, ⟨o, ho, hc, n, hd⟩, _⟩ := I.tuple hs
      obtain ⟨as, hr⟩ := Dp.readsAll I ds _ its ha rv
      exact ⟨_, Reads.tuple ho hc hd hr⟩
  | .dict _, _, _, h, _ => by cases h
theorem Dp.readsAll (I : Inv X pins σ H s) : ∀ (ds : List PyData) (vs : List V) (us : List Value), DpAll X.K H vs ds → Vals vs us → ∃ as, ReadsAll s.heap us ds as
  | [], _, _, h, r => by
    cases h
    cases r
    exact ⟨_, ReadsAll.nil⟩
  | d :: ds, _, _, h, r => by
    cases h with
    | cons h1 h2 =>
      cases r with
      | cons r1 r2 =>
        obtain ⟨as, q1⟩ := Dp.reads I d _ _ h1 r1
        obtain ⟨bs, q2⟩ := Dp.readsAll I ds _ _ h2 r2
        exact ⟨_, ReadsAll.cons q1 q2⟩
end
end
section
variable {X : Cx}
def rEqD (K : PySem.W.Frag) : R2 := fun x y H Q => ∃ d e, Dp K H x d ∧ Dp K H y e ∧ SeqAt.shaped d = true ∧ SeqAt.shaped e = true ∧ Q (.bl (PyData.eqv d e)) H
theorem op_eqD (hu : X.A.units + 64 < cLine) : OpR X (compareOp .Eq) (rEqD X.K) := by
  intro pins s σ H x y v u Q I rx ry h
  obtain ⟨d, e, hd, he, sd, se, q⟩ := h
  obtain ⟨as, r1⟩ := Dp.reads I d x v hd rx
  obtain ⟨bs, r2⟩ := Dp.reads I e y u he ry
  exact SeqAt.compareEq_shaped r1 r2 sd se hu ⟨.bl _, H, I, rfl, q⟩
end
end L2
namespace L2
open PySem PySem.Spec PyProof.Rows
abbrev CellAt (h : Heap) (c : Addr) (v : Option Value) : Prop := h.IsCell c v
def relS (scope sc : Scope) : Scope :=
  { scope with names := scope.names.map fun (n, k) => if (k == .free && sc.kind == .function && sc.names.lookup n == some .cell) then (n, .cell) else (n, k) }
def cloFrom (cells : List (Str × Addr)) : List (Str × NameKind) → List (Str × Addr) → List (Str × Addr)
  | [], acc => acc
  | (n, k) :: r, acc => if k == .free then cloFrom cells r ((n, (cells.lookup n).getD 0) :: acc) else cloFrom cells r acc
theorem closure_loop (env : Env) (f : Str × NameKind → List (Str × Addr) → Sem (ForInStep (List (Str × Addr))))
    (hf : ∀ n k c, f (n, k) c = if k == .free then (do let a ← cellOf env n; pure (.yield ((n, a) :: c))) else pure (.yield c)) :
    ∀ (names : List (Str × NameKind)) (acc : List (Str × Addr)), (∀ y ∈ names, y.2 = .free → ∃ c, env.cells.lookup y.1 = some c) → forIn names acc f = pure (cloFrom env.cells names acc)
  | [], acc, _ => by rw [List.forIn_nil]; rfl
  | (n, k) :: r, acc, h => by
    rw [List.forIn_cons, hf]
    have ih := fun acc => closure_loop env f hf r acc fun y hy => h y (List.mem_cons_of_mem _ hy)
    unfold cloFrom
    by_cases hk : (k == NameKind.free) = true
    · rw [if_pos hk, if_pos hk]
      obtain ⟨c, hc⟩ := h (n, k) List.mem_cons_self (by simpa using hk)
      have e : cellOf env n = pure c := by unfold cellOf; rw [hc]
      rw [e]
      have e2 : (env.cells.lookup n).getD 0 = c := by rw [hc]; rfl
      rw [e2]
      exact ih _
    · rw [if_neg hk, if_neg hk]
      exact ih _
theorem closure_ok {scope : Scope} {env : Env} (h : ∀ y ∈ scope.names, y.2 = .free → ∃ c, env.cells.lookup y.1 = some c) : closureFor scope env = pure (cloFrom env.cells scope.names []) := by
  simp only [closureFor]
  rw [closure_loop env _ (fun n k c => rfl) scope.names [] h]
  rfl
theorem mem_lookup {α : Type} : ∀ {l : List (Str × α)} {n : Str} {c : α}, (n, c) ∈ l → ∃ c', l.lookup n = some c'
  | (k, v) :: r, n, c, h => by
    rw [List.lookup_cons]
    cases hb : n == k with
    | true => exact ⟨_, rfl⟩
    | false =>
      rcases List.mem_cons.mp h with e | h
      · cases e; simp at hb
      · exact mem_lookup h
theorem cloFrom_mem {cells : List (Str × Addr)} : ∀ {names : List (Str × NameKind)} {acc : List (Str × Addr)} {n : Str} {c : Addr}, (n, c) ∈ cloFrom cells names acc → (n, c) ∈ acc ∨ ((n, .free) ∈ names ∧ c = (cells.lookup n).getD 0)
  | [], _, _, _, h => .inl h
  | (m, k) :: r, acc, n, c, h => by
    unfold cloFrom at h
    split at h
    · rename_i hk
      have hk : k = .free := by simpa using hk
      rcases cloFrom_mem h with h | ⟨h1, h2⟩
      · rcases List.mem_cons.mp h with e | h
        · cases e; exact .inr ⟨hk ▸ List.mem_cons_self, rfl⟩
        · exact .inl h
      · exact .inr ⟨List.mem_cons_of_mem _ h1, h2⟩
    · rcases cloFrom_mem h with h | ⟨h1, h2⟩
      · exact .inl h
      · exact .inr ⟨List.mem_cons_of_mem _ h1, h2⟩
theorem cloFrom_acc {cells : List (Str × Addr)} : ∀ {names : List (Str × NameKind)} {acc : List (Str × Addr)} {p : Str × Addr}, p ∈ acc → p ∈ cloFrom cells names acc
  | [], _, _, h => h
  | (m, k) :: r, acc, p, h => by
    unfold cloFrom
    split
    · exact cloFrom_acc (List.mem_cons_of_mem _ h)
    · exact cloFrom_acc h
theorem cloFrom_has {cells : List (Str × Addr)} : ∀ {names : List (Str × NameKind)} {acc : List (Str × Addr)} {n : Str}, (n, .free) ∈ names → (n, (cells.lookup n).getD 0) ∈ cloFrom cells names acc
  | (m, k) :: r, acc, n, h => by
    unfold cloFrom
    rcases List.mem_cons.mp h with e | h
    · cases e
      exact cloFrom_acc List.mem_cons_self
    · split
      · exact cloFrom_has h
      · exact cloFrom_has h
theorem cells_mem : ∀ {names : List (Str × NameKind)} {h : Heap} {acc : List (Str × Addr)} {x : Str} {c : Addr}, (x, c) ∈ cellsFrom h.objs.size names acc →
    (x, c) ∈ acc ∨ ((x, .cell) ∈ names ∧ h.objs.size ≤ c ∧ CellAt (pushCells h names) c none)
  | [], _, _, _, _, h => .inl h
  | (n, k) :: r, h, acc, x, c, hm => by
    unfold cellsFrom at hm
    unfold pushCells
    split at hm
    · rename_i hk
      rw [if_pos hk]
      have hk : k = .cell := by simpa using hk
      rw [← Heap.size_push h { cls := .type "cell", data := .cell none }] at hm
      rcases cells_mem hm with hm | ⟨h1, h2, h3⟩
      · rcases List.mem_cons.mp hm with e | hm
        · cases e
          exact .inr ⟨hk ▸ List.mem_cons_self, Nat.le_refl _, _, pushCells_keeps r _ _ _ (Heap.get?_push_size _ rfl), rfl⟩
        · exact .inl hm
      · rw [Heap.size_push] at h2
        exact .inr ⟨List.mem_cons_of_mem _ h1, Nat.le_of_succ_le h2, h3⟩
    · rename_i hk
      rw [if_neg hk]
      rcases cells_mem hm with hm | ⟨h1, h2, h3⟩
      · exact .inl hm
      · exact .inr ⟨List.mem_cons_of_mem _ h1, h2, h3⟩
theorem cells_acc : ∀ {names : List (Str × NameKind)} {n : Nat} {acc : List (Str × Addr)} {p : Str × Addr}, p ∈ acc → p ∈ cellsFrom n names acc
  | [], _, _, _, h => h
  | (m, k) :: r, n, acc, p, h => by
    unfold cellsFrom
    split
    · exact cells_acc (List.mem_cons_of_mem _ h)
    · exact cells_acc h
theorem cells_has : ∀ {names : List (Str × NameKind)} {n : Nat} {acc : List (Str × Addr)} {x : Str}, (x, .cell) ∈ names → ∃ c, (x, c) ∈ cellsFrom n names acc
  | (m, k) :: r, n, acc, x, h => by
    unfold cellsFrom
    rcases List.mem_cons.mp h with e | h
    · cases e
      exact ⟨n, cells_acc List.mem_cons_self⟩
    · split
      · exact cells_has h
      · exact cells_has h
theorem cells_inj : ∀ {names : List (Str × NameKind)} {h : Heap} {acc : List (Str × Addr)} {x y : Str} {c : Addr}, (∀ p ∈ acc, p.2 < h.objs.size) → (∀ x y c, (x, c) ∈ acc → (y, c) ∈ acc → x = y) →
    (x, c) ∈ cellsFrom h.objs.size names acc → (y, c) ∈ cellsFrom h.objs.size names acc → x = y
  | [], _, _, _, _, _, _, hi, h1, h2 => hi _ _ _ h1 h2
  | (n, k) :: r, h, acc, x, y, c, hl, hi, h1, h2 => by
    unfold cellsFrom at h1 h2
    split at h1
    · rename_i hk
      rw [if_pos hk] at h2
      rw [← Heap.size_push h { cls := .type "cell", data := .cell none }] at h1 h2
      refine cells_inj (h := h.push _) (fun p hp => ?_) (fun x y c a b => ?_) h1 h2
      · rw [Heap.size_push]
        rcases List.mem_cons.mp hp with rfl | hp
        · exact Nat.lt_succ_self _
        · exact Nat.lt_succ_of_lt (hl p hp)
      · rcases List.mem_cons.mp a with e | a <;> rcases List.mem_cons.mp b with e' | b
        · cases e; cases e'; rfl
        · cases e; exact absurd (hl _ b) (Nat.lt_irrefl _)
        · cases e'; exact absurd (hl _ a) (Nat.lt_irrefl _)
        · exact hi _ _ _ a b
    · rename_i hk
      rw [if_neg hk] at h2
      exact cells_inj hl hi h1 h2
theorem newEnv_comp {M : Model} {A : Around} {E : Value → Shared → Prop} {s : Shared} {scope : Scope} {globals : Addr} {closure : List (Str × Addr)} {qual : Str} {func : Option Addr} {code : Value} {around : Env} {builtins : Addr} {Q : Env → Shared → Prop}
    (h : Q (newEnv scope s.heap.objs.size globals (cellsFrom (s.heap.objs.size + 1) scope.names closure) qual func code (some around) builtins)
      { s with heap := pushCells (s.heap.push { cls := .type "dict", data := .dict #[] }) scope.names }) :
    wpAny M A (newFunctionEnv scope globals closure [] qual func code (some around) builtins) Q E s := by
  simp only [newFunctionEnv, Option.isSome_some, if_true]
  refine wpAny_bind (wpAny_alloc ?_)
  refine wpAny_bind (wpAny_layCells _ (fun n k c => rfl) scope.names closure _ _ ?_)
  rw [show ({ s with heap := s.heap.push { cls := .type "dict", data := .dict #[] } } : Shared).heap.objs.size = s.heap.objs.size + 1 from Heap.size_push ..]
  rw [List.forIn_nil]
  exact wpAny_bind (wpAny_pure (wpAny_pure h))
/-- every name of the written scope, in the scope that runs -/
theorem lookup_relS {sc : Scope} : ∀ {names : List (Str × NameKind)} {x : Str} {k : NameKind},
    (names.map fun (n, k) => if (k == NameKind.free && sc.kind == .function && sc.names.lookup n == some .cell) then (n, NameKind.cell) else (n, k)).lookup x = some k →
    ∃ k', names.lookup x = some k' ∧ (k = k' ∨ (k' = .free ∧ k = .cell))
  | [], _, _, h => by simp at h
  | (n, k₀) :: r, x, k, h => by
    have ih := @lookup_relS sc r x k
    have h' : List.lookup x ((if (k₀ == NameKind.free && sc.kind == .function && sc.names.lookup n == some .cell) = true then (n, NameKind.cell) else (n, k₀)) :: (r.map _)) = some k := h
    cases hx : x == n with
    | true =>
      simp only [List.lookup_cons, hx]
      by_cases hc : (k₀ == NameKind.free && sc.kind == .function && sc.names.lookup n == some .cell) = true
      · rw [if_pos hc] at h'
        simp only [List.lookup_cons, hx] at h'
        cases h'
        simp only [Bool.and_eq_true, beq_iff_eq] at hc
        exact ⟨k₀, rfl, .inr ⟨hc.1.1, rfl⟩⟩
      · rw [if_neg hc] at h'
        simp only [List.lookup_cons, hx] at h'
        cases h'
        exact ⟨_, rfl, .inl rfl⟩
    | false =>
      simp only [List.lookup_cons, hx]
      by_cases hc : (k₀ == NameKind.free && sc.kind == .function && sc.names.lookup n == some .cell) = true
      · rw [if_pos hc] at h'
        simp only [List.lookup_cons, hx] at h'
        exact ih h'
      · rw [if_neg hc] at h'
        simp only [List.lookup_cons, hx] at h'
        exact ih h'
/-- the names of a comprehension's block: its own (with their places in N), or captured -/
structure BlkOk (N : List Str) (sc scope : Scope) (own : List (Str × Nat)) : Prop where
  kind : scope.kind = .function
  uniq : ∀ y ∈ scope.names, scope.names.lookup y.1 = some y.2
  ix : ∀ p ∈ own, N[p.2]? = some p.1
  free : ∀ y ∈ scope.names, y.2 = .free → sc.names.lookup y.1 = some .cell ∨ sc.names.lookup y.1 = some .free
  own : ∀ y ∈ scope.names, y.2 = .local ∨ y.2 = .cell → y.1 ∈ own.map (·.1) ∨ y.1 ∉ N
/-- the slots of the block's own names forgotten -/
def wipe (σ : St) : List Nat → St
  | [] => σ
  | v :: vs => (wipe σ vs).set v none
theorem wipe_length (σ : St) : ∀ vs : List Nat, (wipe σ vs).length = σ.length
  | [] => rfl
  | v :: vs => by unfold wipe; rw [List.length_set, wipe_length σ vs]
theorem wipe_some {σ : St} {i : Nat} {x : V} : ∀ {vs : List Nat}, (wipe σ vs)[i]? = some (some x) → σ[i]? = some (some x) ∧ i ∉ vs
  | [], h => ⟨h, by simp⟩
  | v :: vs, h => by
    unfold wipe at h
    by_cases hi : v = i
    · subst hi
      by_cases hv : v < (wipe σ vs).length
      · rw [List.getElem?_set_self hv] at h; cases h
      · rw [List.getElem?_eq_none (by simpa using hv)] at h; cases h
    · rw [List.getElem?_set_ne hi] at h
      obtain ⟨h1, h2⟩ := wipe_some h
      exact ⟨h1, by simp only [List.mem_cons, not_or]; exact ⟨fun e => hi e.symm, h2⟩⟩
/-- the context of a block that starts at s, its iterator's objects at fp -/
abbrev Cx.blk (X : Cx) (s : Shared) (H : Hp) (scope : Scope) (cenv : Env) (fp : List Addr) : Cx := { X with s_0 := s, H_0 := H, env := cenv, outer := X.stack, ex := fp, fn := fun x => scope.names.lookup x == some .cell, pn := [], xe := fun _ _ => False }
section
variable {X : Cx} {pins : List (Addr × Obj)} {σ : St} {H : Hp} {s : Shared}
theorem block_start {scope : Scope} {own : List (Str × Nat)} {fp : List Addr} (I : Inv X pins σ H s) (ok : BlkOk X.N X.env.scope scope own) (hN : X.N.Nodup) (hfp : ∀ b ∈ fp, FpOk X pins H b ∧ b < s.heap.objs.size) :
    Inv (X.blk s H scope (compEnvC scope (cellsFrom (s.heap.objs.size + 1) scope.names (cloFrom X.env.cells scope.names [])) s.heap.objs.size X.env) fp) [] (wipe σ (own.map (·.2))) H { s with heap := pushCells (s.heap.push { cls := .type "dict", data := .dict #[] }) scope.names } := by
  have hfree : ∀ y ∈ scope.names, y.2 = .free → ∃ c, X.env.cells.lookup y.1 = some c := fun y hy e => by
    rcases ok.free y hy e with k | k
    · exact I.ok.has _ (.inl k)
    · exact I.ok.has _ (.inr k)
  generalize hcenv : compEnvC scope (cellsFrom (s.heap.objs.size + 1) scope.names (cloFrom X.env.cells scope.names [])) s.heap.objs.size X.env = cenv
  have kp : ∀ b o, s.heap.get? b = some o → (pushCells (s.heap.push { cls := .type "dict", data := .dict #[] }) scope.names).get? b = some o := fun b o e => pushCells_keeps _ _ _ _ (Heap.get?_push_of_some _ e)
  have hL : cenv.locals = s.heap.objs.size := by rw [← hcenv]; rfl
  have hcl : cenv.cells = cellsFrom (s.heap.objs.size + 1) scope.names (cloFrom X.env.cells scope.names []) := by rw [← hcenv]; rfl
  have hsc : cenv.scope = relS scope X.env.scope := by rw [← hcenv]; rfl
  rw [← Heap.size_push s.heap { cls := .type "dict", data := .dict #[] }] at hcl
  have cm : ∀ {y c}, (y, c) ∈ cloFrom X.env.cells scope.names [] → X.env.cells.lookup y = some c ∧ c < s.heap.objs.size := fun {y c} hm => by
    rcases cloFrom_mem hm with hm | ⟨h1, rfl⟩
    · cases hm
    · obtain ⟨c, hc⟩ := hfree _ h1 rfl
      rw [hc]
      obtain ⟨w, z⟩ := I.cell _ _ hc
      exact ⟨rfl, z.lt⟩
  have mem : ∀ {y c}, cenv.cells.lookup y = some c → (X.env.cells.lookup y = some c ∧ c < s.heap.objs.size) ∨ (s.heap.objs.size + 1 ≤ c ∧ CellAt (pushCells (s.heap.push { cls := .type "dict", data := .dict #[] }) scope.names) c none) := fun {y c} e => by
    rw [hcl] at e
    rcases cells_mem (PySem.mem_of_lookup e) with hm | ⟨_, h2, h3⟩
    · exact .inl (cm hm)
    · rw [Heap.size_push] at h2; exact .inr ⟨h2, h3⟩
  have look : ∀ {y}, scope.names.lookup y = some .free → ∃ c, cenv.cells.lookup y = some c ∧ X.env.cells.lookup y = some c := fun {y} hl => by
    have hy : (y, NameKind.free) ∈ scope.names := PySem.mem_of_lookup hl
    obtain ⟨c', e'⟩ := mem_lookup (cells_acc (names := scope.names) (n := (s.heap.push { cls := .type "dict", data := .dict #[] }).objs.size) (cloFrom_has (cells := X.env.cells) (acc := []) hy))
    rw [← hcl] at e'
    refine ⟨c', e', ?_⟩
    rw [hcl] at e'
    rcases cells_mem (PySem.mem_of_lookup e') with hm | ⟨h1, _, _⟩
    · exact (cm hm).1
    · have := ok.uniq _ h1
      rw [hl] at this; cases this
  have okB : (X.blk s H scope cenv fp).Ok := by
    refine ⟨I.ok.mod, by show cenv.scope.kind = _; rw [hsc]; exact ok.kind, by show cenv.globals = _; rw [← hcenv]; exact I.ok.glob, by show cenv.builtins = _; rw [← hcenv]; exact I.ok.blt, by show s.heap.objs.size ≤ cenv.locals; rw [hL]; exact Nat.le_refl _,
      fun y z c e1 e2 => ?_, fun y hy => ?_, fun y c z e => ?_, I.ok.hd, I.ok.frames, .inl rfl, fun b hb => ⟨?_, fun y c e z => ?_⟩, I.bs, Nat.le_trans I.ok.bsz I.sz, fun b o e hb => ?_, fun b hb z => ?_, I.stack, I.stkFree⟩
    · have e1 : cenv.cells.lookup y = some c := e1
      have e2 : cenv.cells.lookup z = some c := e2
      rw [hcl] at e1 e2
      refine cells_inj (fun p hp => ?_) (fun y z c a b => I.ok.inj y z c (cm a).1 (cm b).1) (PySem.mem_of_lookup e1) (PySem.mem_of_lookup e2)
      rw [Heap.size_push]
      exact Nat.lt_succ_of_lt (cm (y := p.1) (c := p.2) hp).2
    · show ∃ c, cenv.cells.lookup y = some c
      have key : ∀ k, cenv.kindOf y = some k → (k = .cell ∨ k = .free) → ∃ c, cenv.cells.lookup y = some c := fun k hk hk' => by
        unfold Env.kindOf at hk
        rw [hsc] at hk
        obtain ⟨k', e, r⟩ := lookup_relS hk
        have : k' = .cell ∨ k' = .free := by
          rcases r with rfl | ⟨rfl, _⟩
          · exact hk'
          · exact .inr rfl
        rcases this with rfl | rfl
        · obtain ⟨c, hm⟩ := cells_has (n := (s.heap.push { cls := .type "dict", data := .dict #[] }).objs.size) (acc := cloFrom X.env.cells scope.names []) (PySem.mem_of_lookup e)
          obtain ⟨c', e'⟩ := mem_lookup hm
          exact ⟨c', by rw [hcl]; exact e'⟩
        · obtain ⟨c, h1, _⟩ := look e
          exact ⟨c, h1⟩
      rcases hy with hy | hy
      · exact key _ hy (.inl rfl)
      · exact key _ hy (.inr rfl)
    · have z : (scope.names.lookup y == some NameKind.cell) = true := z
      have z : scope.names.lookup y = some .cell := by simpa using z
      have e : cenv.cells.lookup y = some c := e
      rw [hcl] at e
      rcases cells_mem (PySem.mem_of_lookup e) with hm | ⟨_, h2, _⟩
      · rcases cloFrom_mem hm with hm | ⟨h1, _⟩
        · cases hm
        · have q := ok.uniq _ h1
          rw [z] at q; cases q
      · rw [Heap.size_push] at h2
        exact Nat.le_of_succ_le h2
    · show b ≠ cenv.locals
      rw [hL]; exact Nat.ne_of_lt (hfp b hb).2
    · have e : cenv.cells.lookup y = some c := e
      rcases mem e with ⟨h1, _⟩ | ⟨h1, _⟩
      · exact (hfp b hb).1.2.2.2.2.1 y c h1 z
      · have h2 : s.heap.objs.size + 1 ≤ b := by rw [← z]; exact h1
        exact absurd (Nat.lt_of_lt_of_le (hfp b hb).2 (Nat.le_of_succ_le h2)) (Nat.lt_irrefl _)
    · rcases (hfp b hb).1.2.2.2.1 with z | z
      · exact I.ok.noex b o e z
      · exact absurd (Nat.lt_of_lt_of_le (Heap.lt_size e) (Nat.le_trans I.ok.bsz z)) (Nat.lt_irrefl _)
    · rcases List.mem_cons.mp (I.stkSub b z) with z | z
      · exact (hfp b hb).1.2.1 z
      · exact (hfp b hb).1.2.2.1 z
  refine ⟨okB, rfl, I.bare, Un.kept kp, ⟨fun _ => none, ?_, fun i y av e1 e2 e3 => ?_⟩, fun y c e => ?_, ?_, fun y c e => ?_, fun p hp => ?_, I.hok.kept kp, by rw [wipe_length]; exact I.len⟩
  · show Heap.Ns _ cenv.locals _
    rw [hL]
    exact Heap.Ns.keeps (Heap.Ns.new ..) fun b o e => pushCells_keeps _ _ _ _ e
  · obtain ⟨e2, hne⟩ := wipe_some e2
    have hfr : scope.names.lookup y = some .free ∧ (cenv.kindOf y = some .cell ∨ cenv.kindOf y = some .free) := by
      have key : ∀ k, cenv.scope.names.lookup y = some k → k = .local ∨ k = .cell ∨ k = .free → scope.names.lookup y = some .free ∧ (cenv.kindOf y = some .cell ∨ cenv.kindOf y = some .free) := fun k hk hk' => by
        have hk0 := hk
        rw [hsc] at hk
        obtain ⟨k', e, r⟩ := lookup_relS hk
        have no : ¬ (k' = .local ∨ k' = .cell) := fun hh => by
          rcases ok.own _ (PySem.mem_of_lookup e) hh with e' | e'
          · obtain ⟨p, hp, hpy⟩ := List.mem_map.mp e'
            have e3 := ok.ix p hp
            have : p.1 = y := hpy
            rw [this] at e3
            exact hne (List.mem_map.mpr ⟨p, hp, nodup_ix hN e3 e1⟩)
          · exact e' (List.mem_of_getElem? e1)
        rcases r with rfl | ⟨rfl, rfl⟩
        · rcases hk' with rfl | rfl | rfl
          · exact absurd (.inl rfl) no
          · exact absurd (.inr rfl) no
          · exact ⟨e, .inr hk0⟩
        · exact ⟨e, .inl hk0⟩
      have e3 : Vis cenv.scope y := e3
      rcases e3 with e3 | e3 | e3
      · exact key _ e3 (.inl rfl)
      · exact key _ e3 (.inr (.inl rfl))
      · exact key _ e3 (.inr (.inr rfl))
    obtain ⟨m, hn, hl⟩ := I.loc
    have hvis : Vis X.env.scope y := (ok.free _ (PySem.mem_of_lookup hfr.1) rfl).elim (fun k => .inr (.inl k)) (fun k => .inr (.inr k))
    obtain ⟨w, r, q⟩ := hl i y av e1 e2 hvis
    refine ⟨w, r, .inr ⟨hfr.2, ?_⟩⟩
    obtain ⟨c, h1, h2⟩ := look hfr.1
    rcases q with ⟨k, _⟩ | ⟨_, c', e', z⟩
    · have k : X.env.scope.names.lookup y = some .local := k
      rcases ok.free _ (PySem.mem_of_lookup hfr.1) rfl with k' | k' <;> rw [show X.env.scope.names.lookup y = _ from k'] at k <;> cases k
    · rw [h2] at e'; cases e'
      exact ⟨c, h1, z.keeps kp⟩
  · have e : cenv.cells.lookup y = some c := e
    rcases mem e with ⟨h1, _⟩ | ⟨_, z⟩
    · obtain ⟨w, z⟩ := I.cell y c h1
      exact ⟨w, z.keeps kp⟩
    · exact ⟨_, z⟩
  · show H cenv.locals = none
    rw [hL]; exact I.hok.fresh (Nat.le_refl _)
  · have e : cenv.cells.lookup y = some c := e
    rcases mem e with ⟨h1, _⟩ | ⟨h1, _⟩
    · exact I.freeC y c h1
    · exact I.hok.fresh (Nat.le_of_succ_le h1)
  · exact absurd (show p ∈ ([] : List (Addr × Obj)) ++ [] from hp) (by simp)
/-- an item appended to a tracked list -/
theorem app_ok {E : Value → Shared → Prop} {D : Addr} {xs : List V} {y : V} {v : Value} {Q : Value → Shared → Prop} (I : Inv X pins σ H s) (hD : H D = some (.lst xs)) (hz : xs.length < sizeLine) (r : RelV y v)
    (h : ∀ s', Inv X pins σ (upd H D (.lst (xs ++ [y]))) s' → Q .none s') : wpAny (model X.prog X.w) X.A (call (.builtin "list.append") [.ref D, v]) Q E s := by
  obtain ⟨hz', its, n, ri, e⟩ := I.hok D _ hD
  have hl := ri.length
  refine append_at (hsz := by rw [List.size_toArray]; omega) e fun h' sb ho' => ?_
  refine h { s with heap := h' } (I.write (t' := s.toks) (by rw [hD]; trivial) (.inl rfl) (fun b u hb q => (sb.2 b hb).trans q) ⟨_, ho'⟩ ⟨by rw [List.length_append]; exact hz, its ++ [v], n + 1, ri.append (.cons r .nil), ?_⟩)
  rw [ho']
  simp
/-- a clause's tests -/
def PTs (X : Cx) (ifs : List Expr) (t : TT) : Prop :=
  ∀ (pins : List (Addr × Obj)) (s : Shared) (σ : St) (H : Hp) (Q : Bool → Hp → Prop), Inv X pins σ H s → t σ H Q →
    wpAny (model X.prog X.w) X.A (forIn ifs true fun c r => if r = true then do let ok ← isTrue c X.env (eval c X.env); pure (ForInStep.yield ok) else pure (ForInStep.yield r)) (TP X pins σ Q) X.xe s
def tYes : TT := fun _ H Q => Q true H
theorem pts_nil : PTs X [] tYes := fun _ _ _ H _ I h => wpAny_tests_nil ⟨H, I, h⟩
theorem pts_one {c : Expr} {t : TT} (h : PT X c t) : PTs X [c] t := fun pins s σ H Q I hw => wpAny_tests_one (h pins s σ H Q I hw)
end
theorem thnF {α : Type} {t : Sem α} {Q Q' : α → Shared → Prop} {M : Model} {A : Around} {E : Value → Shared → Prop} {s : Shared} (h : wpAny M A t Q (fun _ _ => False) s) (hQ : ∀ a s, Q a s → Q' a s) : wpAny M A t Q' E s := wpAny_mono h hQ fun _ _ z => False.elim z
/-- the loop of a list comprehension's block, the target of any form (codeAny_compLoop_tests asks a target that no tuple goes to; statement and proof follow it, PyProof/CompMap.lean:41-61, with the step letOwnedTupleGo kept) -/
theorem compLoop_any {prog : Program} {w : World} {A : Around} {R : Result → Shared → Prop} {s : Shared} {elt target iter : Expr} {ifs : List Expr} {scope : Scope} {pos : Pos} {it acc : Value} {env : Env} (I : Nat → Shared → Prop)
    (turn : ∀ n s, I n s → wpAny (model prog w) A (pyNext it) (fun r s₁ => match r with
      | none => R (.ok .next) s₁
      | some v => wpAny (model prog w) A (letOwnedTupleGo target it v) (fun _ s₁' => wpAny (model prog w) A (assign target env v) (fun _ s₂ =>
          wpAny (model prog w) A (forIn ifs true fun c r => if r = true then do let ok ← isTrue c env (eval c env); pure (ForInStep.yield ok) else pure (ForInStep.yield r)) (fun ok s₃ =>
            if ok = true then wpAny (model prog w) A (eval elt env) (fun x s₄ =>
              wpAny (model prog w) A (call (.builtin "list.append") [acc, x]) (fun _ s₅ => ∃ m, m < n ∧ I m s₅) (notedBy (model prog w) A env fun e s' => R (.error e) s') s₄) (notedBy (model prog w) A env fun e s' => R (.error e) s') s₃
            else ∃ m, m < n ∧ I m s₃) (notedBy (model prog w) A env fun e s' => R (.error e) s') s₂) (notedBy (model prog w) A env fun e s' => R (.error e) s') s₁') (notedBy (model prog w) A env fun e s' => R (.error e) s') s₁) (notedBy (model prog w) A env fun e s' => R (.error e) s') s)
    (n : Nat) (h : I n s) :
    codeAny (model prog w) A (.compLoop (.ListComp elt [⟨target, iter, ifs, 0⟩] scope pos) 0 it acc env) R s := by
  refine codeAny_loop rfl I (fun n s hI => ?_) n h
  show wpAny _ A ((compTurn (.ListComp elt [⟨target, iter, ifs, 0⟩] scope pos) 0 it acc env).onRaise (fun x => do noteFrame x env; theTreesLotGoes x)) _ _ s
  refine wpAny_noted ?_
  rw [compTurn_list]
  refine wpAny_bind (wpAny_standAt (wpAny_bind (wpAny_mono (turn n s hI) (fun r s₁ h₁ => ?_) fun _ _ h' => h')))
  cases r with
  | none => exact wpAny_pure h₁
  | some v =>
    refine wpAny_bind (wpAny_mono h₁ (fun _ s₁' h₁' => ?_) fun _ _ h' => h')
    refine wpAny_bind (wpAny_mono h₁' (fun _ s₂ h₂ => wpAny_bind (wpAny_mono h₂ (fun ok s₃ h₃ => ?_) fun _ _ h' => h')) fun _ _ h' => h')
    cases ok with
    | false => exact wpAny_pure ⟨rfl, h₃⟩
    | true =>
      exact wpAny_bind (wpAny_bind (wpAny_mono h₃ (fun x s₄ h₄ => wpAny_bind (wpAny_mono h₄ (fun _ s₅ h₅ => wpAny_pure (wpAny_pure ⟨rfl, h₅⟩)) fun _ _ h' => h')) fun _ _ h' => h'))
section
variable {X : Cx}
/-- [elt for target in iter if ..]: D the new list; W by the turn and a measure, Nx what a turn is to reach -/
def tLc (wi : TI) (g : TG) (tt : TT) (te : TE) (vs : List Nat) : TE := fun σ H Q => wi σ H fun J H1 => ∀ D, H1 D = none → ∃ W : Nat → Nat → Hp → Prop, (∃ m, W 0 m (upd H1 D (.lst []))) ∧ ∀ i m H, W i m H →
  (J.stop i H ∧ Q (.ref D) H) ∨ (J.go i H ∧ ∃ Nx : Hp → Prop, (∀ H', Nx H' → ∃ m', m' < m ∧ W (i + 1) m' H') ∧ ∀ x H', J.yld i H x H' → g x (wipe σ vs) H' fun σ2 H2 => wipe σ2 vs = wipe σ vs ∧ tt σ2 H2 fun b H3 =>
    if b = true then te σ2 H3 fun y H4 => ∃ acc, H4 D = some (.lst acc) ∧ acc.length < sizeLine ∧ Nx (upd H4 D (.lst (acc ++ [y]))) else Nx H3)
theorem lc_core {pins : List (Addr × Obj)} {s : Shared} {σ : St} {H : Hp} {Q : VK} {elt tg iter : Expr} {ifs : List Expr} {scope : Scope} {own : List (Str × Nat)} {pos pos' : Pos} {wi : TI} {g : TG} {tt : TT} {te : TE} {use : Option (Value → Sem Unit)} {Qf : Value → Shared → Prop}
    (hc : X.calm = true) (hN : X.N.Nodup) (I : Inv X pins σ H s) (hi : PI X tg iter wi) (ok : BlkOk X.N X.env.scope scope own)
    (hg : ∀ (s : Shared) (H : Hp) (C : Addr) (cl : List (Str × Addr)) (fp : List Addr), PG (X.blk s H scope (compEnvC scope cl C X.env) fp) tg g) (ht : ∀ (s : Shared) (H : Hp) (C : Addr) (cl : List (Str × Addr)) (fp : List Addr), PTs (X.blk s H scope (compEnvC scope cl C X.env) fp) ifs tt)
    (he : ∀ (s : Shared) (H : Hp) (C : Addr) (cl : List (Str × Addr)) (fp : List Addr), PE (X.blk s H scope (compEnvC scope cl C X.env) fp) elt te) (hs : ∀ x, foldedSetIterable iter X.env x = pure x)
    (h : tLc wi g tt te (own.map (·.2)) σ H Q)
    (hRR : ∀ D C s' m H', Inv X pins σ H' s' → Q (.ref D) H' → s'.heap.Ns C m → FpOk X pins H' C → compPost (model X.prog X.w) X.A X.xe use Qf (.ref D) C (.ok .next) s') :
    wpAny (model X.prog X.w) X.A (comprehension (.ListComp elt [⟨tg, iter, ifs, 0⟩] scope pos) scope X.env pos' (newList []) false (eval iter X.env) use) Qf X.xe s := by
  have hfree : ∀ y ∈ scope.names, y.2 = .free → ∃ c, X.env.cells.lookup y.1 = some c := fun y hy e => by
    rcases ok.free y hy e with k | k
    · exact I.ok.has _ (.inl k)
    · exact I.ok.has _ (.inr k)
  refine wpAny_comprehension_free (use := use) rfl hs (closure_ok hfree) ok.kind (fun y hy e => by rw [ok.uniq y hy, e])
    (thn (hi pins s σ H _ I h) fun xv s1 hx => thn hx fun itv s2 h2 => ?_)
  obtain ⟨it, fp, tn, J, H2, e, I2, T, st2, f2, q⟩ := h2
  subst e
  refine wpAny_newObj_type (newEnv_comp ?_) (by show 0 ≤ sizeLine; decide)
  generalize hD : s2.heap.objs.size = D
  have hDn : H2 D = none := I2.hok.fresh (Nat.le_of_eq hD)
  obtain ⟨W, ⟨m0, w0⟩, turn⟩ := q D hDn
  -- the new list
  generalize hs3 : ({ s2 with heap := s2.heap.push { cls := .type "list", data := .seq ([] : List Value).toArray } } : Shared) = s3
  have I3 : Inv X pins σ (upd H2 D (.lst [])) s3 := by
    rw [← hs3]
    refine I2.laid (t' := s2.toks) (fun b o e => Heap.get?_push_of_some _ e) (Nat.le_of_eq hD) ⟨Nat.zero_le _, [], 0, .nil, ?_⟩
    rw [← hD]
    exact Heap.get?_push_size _ rfl
  have h3 : s3.heap = s2.heap.push { cls := .type "list", data := .seq ([] : List Value).toArray } := by rw [← hs3]
  have sz : ∀ b ∈ fp, b < s2.heap.objs.size := fun b hb => by
    obtain ⟨o, e, _⟩ := T.obj _ _ st2 b hb
    exact Heap.lt_size e
  have f3 : ∀ b ∈ fp, FpOk X pins (upd H2 D (.lst [])) b ∧ b < s3.heap.objs.size := fun b hb => by
    have hlt := sz b hb
    refine ⟨⟨?_, (f2 b hb).2⟩, by rw [h3, Heap.size_push]; exact Nat.lt_succ_of_lt hlt⟩
    rw [upd_ne (by rw [← hD]; exact Nat.ne_of_lt hlt)]
    exact (f2 b hb).1
  have st3 : tn 0 s3.heap := T.keep _ _ _ st2 fun b _ o e => by rw [h3]; exact Heap.get?_push_of_some _ e
  have I4 := block_start I3 ok hN f3
  have pg := hg s3 (upd H2 D (.lst [])) s3.heap.objs.size (cellsFrom (s3.heap.objs.size + 1) scope.names (cloFrom X.env.cells scope.names [])) fp
  have pt := ht s3 (upd H2 D (.lst [])) s3.heap.objs.size (cellsFrom (s3.heap.objs.size + 1) scope.names (cloFrom X.env.cells scope.names [])) fp
  have pe := he s3 (upd H2 D (.lst [])) s3.heap.objs.size (cellsFrom (s3.heap.objs.size + 1) scope.names (cloFrom X.env.cells scope.names [])) fp
  show codeAny _ _ (.compStart (.ListComp elt [⟨tg, iter, ifs, 0⟩] scope pos) 0 (.ref it) (.ref D) (compEnvC scope (cellsFrom (s3.heap.objs.size + 1) scope.names (cloFrom X.env.cells scope.names [])) s3.heap.objs.size X.env)) (compPost (model X.prog X.w) X.A X.xe use Qf (.ref D) s3.heap.objs.size) { s3 with heap := pushCells (s3.heap.push { cls := .type "dict", data := .dict #[] }) scope.names }
  have nfp : ∀ b ∈ fp, (upd H2 D (.lst [])) b = none := fun b hb => (f3 b hb).1.1
  generalize hce : compEnvC scope (cellsFrom (s3.heap.objs.size + 1) scope.names (cloFrom X.env.cells scope.names [])) s3.heap.objs.size X.env = ce at I4 pg pt pe ⊢
  have cL : ce.locals = s3.heap.objs.size := by subst hce; rfl
  generalize hH3 : upd H2 D (.lst []) = H3 at I3 I4 pg pt pe w0 nfp f3
  generalize hs4 : ({ s3 with heap := pushCells (s3.heap.push { cls := .type "dict", data := .dict #[] }) scope.names } : Shared) = s4 at I4 ⊢
  have st4 : tn 0 s4.heap := T.keep _ _ _ st3 fun b _ o e => by rw [← hs4]; exact pushCells_keeps _ _ _ _ (Heap.get?_push_of_some _ e)
  have stat : ∀ {σ' : St} {H' : Hp} {s' : Shared}, Inv (X.blk s3 H3 scope ce fp) [] σ' H' s' → (∀ b ∈ fp, H' b = none) → ∀ b ∈ fp, FpOk (X.blk s3 H3 scope ce fp) [] H' b := fun {σ' H' s'} I' hn b hb =>
    ⟨hn b hb, (I'.ok.exf b hb).1, I'.ok.exfs b hb, .inl hb, fun x c e => (I'.ok.exf b hb).2 x c e, fun p hp => absurd (show p ∈ ([] : List (Addr × Obj)) ++ [] from hp) (by simp)⟩
  have loop : codeAny (model X.prog X.w) X.A (.compLoop (.ListComp elt [⟨tg, iter, ifs, 0⟩] scope pos) 0 (.ref it) (.ref D) ce) (compPost (model X.prog X.w) X.A X.xe use Qf (.ref D) s3.heap.objs.size) s4 := by
    refine compLoop_any (fun n s' => ∃ i H', Inv (X.blk s3 H3 scope ce fp) [] (wipe σ (own.map (·.2))) H' s' ∧ tn i s'.heap ∧ (∀ b ∈ fp, H' b = none) ∧ W i n H') ?_ m0 ⟨0, H3, I4, st4, nfp, w0⟩
    rintro n s5 ⟨i, H5, I5, st5, n5, w5⟩
    rcases turn i n H5 w5 with ⟨stop, qq⟩ | ⟨go, Nx, hNx, step⟩
    · have td := T.done (X.blk s3 H3 scope ce fp) rfl rfl rfl hc i [] s5 _ H5 (fun _ _ => False) I5 (stat I5 n5) st5 stop
      refine thnF td fun r s6 ⟨hr, I6⟩ => ?_
      subst hr
      -- back in the def's context
      have I7 : Inv X pins σ H5 s6 := I3.call' (ch := fp) I6.os I6.base I6.hok I6.bare fun b hb => ⟨(f3 b hb).1.2.2.2.1, (f3 b hb).1.2.1, (f3 b hb).1.2.2.2.2.1, (f3 b hb).1.2.2.2.2.2⟩
      have nC : H5 s3.heap.objs.size = none := by
        have z : H5 ce.locals = none := I6.free
        rw [cL] at z
        exact z
      obtain ⟨m, hn, _⟩ := I6.loc
      have hn : s6.heap.Ns ce.locals m := hn
      rw [cL] at hn
      exact hRR D s3.heap.objs.size s6 m H5 I7 qq hn (I3.fpOk (Nat.le_refl _) nC)
    · have ti := T.item (X.blk s3 H3 scope ce fp) rfl rfl rfl hc i [] s5 _ H5 (fun _ _ => False) I5 (stat I5 n5) st5 go
      refine thnF ti fun r s6 ⟨u, hr, h6⟩ => ?_
      subst hr
      refine thnF h6 fun _ s7 ⟨x, H7, I7, r7, y7, st7, n7⟩ => ?_
      have I7' := I7.pinned (stat I7 n7) (T.obj _ _ st7)
      refine thnF (pg _ s7 _ H7 x u _ I7' r7 (step x H7 y7)) fun _ s8 ⟨σ8, H8, I8, hw8, q8⟩ => ?_
      refine thnF (pt _ s8 σ8 H8 _ I8 q8) fun b s9 ⟨H9, I9, q9⟩ => ?_
      -- the turn's end
      have fin : ∀ {s' : Shared} {H' : Hp}, Inv (X.blk s3 H3 scope ce fp) ([] ++ pinsAt fp s7.heap) σ8 H' s' → Nx H' → ∃ m, m < n ∧ ∃ i H', Inv (X.blk s3 H3 scope ce fp) [] (wipe σ (own.map (·.2))) H' s' ∧ tn i s'.heap ∧ (∀ b ∈ fp, H' b = none) ∧ W i m H' := fun {s' H'} I' nx => by
        obtain ⟨m', hm, w'⟩ := hNx H' nx
        have pin' : ∀ b ∈ fp, ∀ o, s7.heap.get? b = some o → s'.heap.get? b = some o ∧ H' b = none := fun b hb o e =>
          let z := I'.pin (b, o) (List.mem_append_right _ (List.mem_append_right _ (mem_pinsAt hb e)))
          ⟨z.1, z.2.1⟩
        have hl : (wipe σ (own.map (·.2))).length = σ8.length := by rw [← hw8, wipe_length]
        refine ⟨m', hm, i + 1, H', (I'.unpinned (pins := [])).weak hl (fun j v e => ?_), T.keep _ _ _ st7 fun b hb o e => (pin' b hb o e).1, fun b hb => ?_, w'⟩
        · rw [← hw8] at e
          exact (wipe_some e).1
        · obtain ⟨o, e, _⟩ := T.obj _ _ st7 b hb
          exact (pin' b hb o e).2
      cases b with
      | false =>
        simp only [Bool.false_eq_true, if_false] at q9 ⊢
        exact fin I9 q9
      | true =>
        simp only [if_true] at q9 ⊢
        refine thnF (pe _ s9 σ8 H9 _ I9 q9) fun z s10 ⟨yv, H10, I10, r10, acc, hD10, hz10, nx⟩ => ?_
        exact app_ok (X := X.blk s3 H3 scope ce fp) I10 hD10 hz10 r10 fun s11 I11 => fin I11 nx
  exact codeAny_compStart_list loop (T.self X.A 0 _ _ _ st4 loop)
/-- as a value -/
theorem pe_lc {elt tg iter : Expr} {ifs : List Expr} {scope : Scope} {own : List (Str × Nat)} {pos : Pos} {wi : TI} {g : TG} {tt : TT} {te : TE} (hc : X.calm = true) (hN : X.N.Nodup) (hi : PI X tg iter wi) (ok : BlkOk X.N X.env.scope scope own)
    (hg : ∀ (s : Shared) (H : Hp) (C : Addr) (cl : List (Str × Addr)) (fp : List Addr), PG (X.blk s H scope (compEnvC scope cl C X.env) fp) tg g) (ht : ∀ (s : Shared) (H : Hp) (C : Addr) (cl : List (Str × Addr)) (fp : List Addr), PTs (X.blk s H scope (compEnvC scope cl C X.env) fp) ifs tt)
    (he : ∀ (s : Shared) (H : Hp) (C : Addr) (cl : List (Str × Addr)) (fp : List Addr), PE (X.blk s H scope (compEnvC scope cl C X.env) fp) elt te) (hs : ∀ x, foldedSetIterable iter X.env x = pure x := by intro _; rfl) :
    PE X (.ListComp elt [⟨tg, iter, ifs, 0⟩] scope pos) (tLc wi g tt te (own.map (·.2))) := by
  intro pins s σ H Q I h
  rw [eval_ListComp]
  refine lc_core hc hN I hi ok hg ht he hs h fun D C s' m H' I' q hn f => ⟨m, hn, fun h'' sb => ?_⟩
  obtain ⟨f0, f1, f2, f3, f4, f5⟩ := f
  exact ⟨.ref D, H', I'.turned (t' := s'.toks) (fun b o hb e => (sb.2 b hb).trans e) f0 f1 f3 f4 f5, rfl, q⟩
/-- name = [..] on one line, the name a local -/
theorem ps_setLc {i : Nat} {y : Str} {py : Pos} {elt tg iter : Expr} {ifs : List Expr} {scope : Scope} {own : List (Str × Nat)} {pos spos : Pos} {wi : TI} {g : TG} {tt : TT} {te : TE} (hc : X.calm = true) (hN : X.N.Nodup) (hy : X.N[i]? = some y) (hyl : X.env.scope.names.lookup y = some .local)
    (hsw : swapsWith (.ListComp elt [⟨tg, iter, ifs, 0⟩] scope pos) (some (.Name y py)) spos.line X.env = pure true) (hi : PI X tg iter wi) (ok : BlkOk X.N X.env.scope scope own)
    (hg : ∀ (s : Shared) (H : Hp) (C : Addr) (cl : List (Str × Addr)) (fp : List Addr), PG (X.blk s H scope (compEnvC scope cl C X.env) fp) tg g) (ht : ∀ (s : Shared) (H : Hp) (C : Addr) (cl : List (Str × Addr)) (fp : List Addr), PTs (X.blk s H scope (compEnvC scope cl C X.env) fp) ifs tt)
    (he : ∀ (s : Shared) (H : Hp) (C : Addr) (cl : List (Str × Addr)) (fp : List Addr), PE (X.blk s H scope (compEnvC scope cl C X.env) fp) elt te) (hs : ∀ x, foldedSetIterable iter X.env x = pure x := by intro _; rfl) :
    PS X (.Assign [.Name y py] (.ListComp elt [⟨tg, iter, ifs, 0⟩] scope pos) spos) (tAsg (tLc wi g tt te (own.map (·.2))) (gName i)) := by
  intro pins s σ H D I h
  rw [exec_Assign_Name_used _ _ _ _ hsw]
  refine wpAny_bind (wpAny_standAt (wpAny_bind ?_))
  show wpAny _ X.A (do let _ ← comprehension (.ListComp elt [⟨tg, iter, ifs, 0⟩] scope pos) scope X.env (firstIterPos [⟨tg, iter, ifs, 0⟩] pos) (newList []) false (eval iter X.env) (some (assign (.Name y py) X.env))) _ _ s
  have h : tLc wi g tt te (own.map (·.2)) σ H (fun x H1 => gName i x σ H1 D.nx) := h
  refine wpAny_bind (thn (lc_core (Qf := fun _ s' => SP X pins D .next s') hc hN I hi ok hg ht he hs h fun L C s' m H' I' q hn f => ?_) fun _ s' hq => wpAny_pure (wpAny_pure hq))
  show wpAny _ _ (assign (.Name y py) X.env (.ref L)) _ _ _
  refine wpAny_assign_Name (store_ok2 (v := V.ref L) I' hN hy (.inl hyl) rfl (fun s2 I2 ⟨a, sb, ha⟩ => ?_) (.inr hyl))
  obtain ⟨f0, f1, f2, f3, f4, f5⟩ := f
  have haC : C ≠ a := by
    rcases ha with z | z
    · rw [z]; exact f1
    · exact fun e => f4 y a z e.symm
  refine ⟨m, hn.sameBut sb haC, fun h3 sb3 => ?_⟩
  exact ⟨_, H', I2.turned (t' := s2.toks) (fun b o hb e => (sb3.2 b hb).trans e) f0 f1 f3 f4 f5, q⟩
theorem sw_true {elt : Expr} {gs : List Comprehension} {scope : Scope} {pos py : Pos} {y : Str} {l : Nat} {env : Env} (hk : env.scope.kind = .function) (hy : env.scope.names.lookup y = some .local) (hl : (py.line == pos.line) = true)
    (ha : (scope.names.any fun (n, k) => n == y && (k == .local || k == .cell)) = false) : swapsWith (.ListComp elt gs scope pos) (some (.Name y py)) l env = pure true := by
  have ky : env.kindOf y = some .local := hy
  have hb : env.blockKind = .function := by unfold Env.blockKind; rw [hk]; rfl
  unfold swapsWith
  simp only [hb, ky, ha, Expr.pos, hl]
  rfl
end
/-! ### the forms one uses -/
/-- over a list that the block leaves as it is -/
theorem lc_list {K : PySem.W.Frag} {a : Addr} {xs : List V} {g : TG} {tt : TT} {te : TE} {vs : List Nat} {σ : St} {H1 : Hp} {D : Addr} {Qd : Hp → Prop} (Pv : Nat → Hp → Prop) (h0 : Pv 0 (upd H1 D (.lst []))) (hl : ∀ i H, i ≤ xs.length → Pv i H → SqL K H a xs)
    (hs : ∀ i x H, xs[i]? = some x → Pv i H → g x (wipe σ vs) H fun σ2 H2 => wipe σ2 vs = wipe σ vs ∧ tt σ2 H2 fun b H3 =>
      if b = true then te σ2 H3 fun y H4 => ∃ acc, H4 D = some (.lst acc) ∧ acc.length < sizeLine ∧ Pv (i + 1) (upd H4 D (.lst (acc ++ [y]))) else Pv (i + 1) H3) (hd : ∀ H, Pv xs.length H → Qd H) :
    ∃ W : Nat → Nat → Hp → Prop, (∃ m, W 0 m (upd H1 D (.lst []))) ∧ ∀ i m H, W i m H →
      ((Itl K a).stop i H ∧ Qd H) ∨ ((Itl K a).go i H ∧ ∃ Nx : Hp → Prop, (∀ H', Nx H' → ∃ m', m' < m ∧ W (i + 1) m' H') ∧ ∀ x H', (Itl K a).yld i H x H' → g x (wipe σ vs) H' fun σ2 H2 => wipe σ2 vs = wipe σ vs ∧ tt σ2 H2 fun b H3 =>
        if b = true then te σ2 H3 fun y H4 => ∃ acc, H4 D = some (.lst acc) ∧ acc.length < sizeLine ∧ Nx (upd H4 D (.lst (acc ++ [y]))) else Nx H3) := by
  refine ⟨fun i m H => m = xs.length - i ∧ i ≤ xs.length ∧ Pv i H, ⟨xs.length, by simp, Nat.zero_le _, h0⟩, ?_⟩
  rintro i m H ⟨rfl, hi, p⟩
  have q := hl i H hi p
  by_cases hlt : i < xs.length
  · refine .inr ⟨⟨xs, xs[i], q, by simp [hlt]⟩, Pv (i + 1), fun H' p' => ⟨xs.length - (i + 1), by omega, rfl, hlt, p'⟩, fun x H' y => ?_⟩
    obtain ⟨e, y⟩ := y
    subst e
    exact hs i x _ (y xs q) p
  · have e : i = xs.length := by omega
    subst e
    exact .inl ⟨⟨xs, q, Nat.le_refl _⟩, hd H p⟩
/-- over a tuple -/
theorem lc_tup {K : PySem.W.Frag} {a : Addr} {xs : List V} {g : TG} {tt : TT} {te : TE} {vs : List Nat} {σ : St} {H1 : Hp} {D : Addr} {Qd : Hp → Prop} (Pv : Nat → Hp → Prop) (h0 : Pv 0 (upd H1 D (.lst []))) (hl : ∀ i H, i ≤ xs.length → Pv i H → SqT K H a xs)
    (hs : ∀ i x H, xs[i]? = some x → Pv i H → g x (wipe σ vs) H fun σ2 H2 => wipe σ2 vs = wipe σ vs ∧ tt σ2 H2 fun b H3 =>
      if b = true then te σ2 H3 fun y H4 => ∃ acc, H4 D = some (.lst acc) ∧ acc.length < sizeLine ∧ Pv (i + 1) (upd H4 D (.lst (acc ++ [y]))) else Pv (i + 1) H3) (hd : ∀ H, Pv xs.length H → Qd H) :
    ∃ W : Nat → Nat → Hp → Prop, (∃ m, W 0 m (upd H1 D (.lst []))) ∧ ∀ i m H, W i m H →
      ((Itt K a).stop i H ∧ Qd H) ∨ ((Itt K a).go i H ∧ ∃ Nx : Hp → Prop, (∀ H', Nx H' → ∃ m', m' < m ∧ W (i + 1) m' H') ∧ ∀ x H', (Itt K a).yld i H x H' → g x (wipe σ vs) H' fun σ2 H2 => wipe σ2 vs = wipe σ vs ∧ tt σ2 H2 fun b H3 =>
        if b = true then te σ2 H3 fun y H4 => ∃ acc, H4 D = some (.lst acc) ∧ acc.length < sizeLine ∧ Nx (upd H4 D (.lst (acc ++ [y]))) else Nx H3) := by
  refine ⟨fun i m H => m = xs.length - i ∧ i ≤ xs.length ∧ Pv i H, ⟨xs.length, by simp, Nat.zero_le _, h0⟩, ?_⟩
  rintro i m H ⟨rfl, hi, p⟩
  have q := hl i H hi p
  by_cases hlt : i < xs.length
  · refine .inr ⟨⟨xs, xs[i], q, by simp [hlt]⟩, Pv (i + 1), fun H' p' => ⟨xs.length - (i + 1), by omega, rfl, hlt, p'⟩, fun x H' y => ?_⟩
    obtain ⟨e, y⟩ := y
    subst e
    exact hs i x _ (y xs q) p
  · have e : i = xs.length := by omega
    subst e
    exact .inl ⟨⟨xs, q, Nat.le_refl _⟩, hd H p⟩
def blkC (N : List Str) (sc scope : Scope) (own : List (Str × Nat)) : Bool :=
  (match scope.kind with | .function => true | _ => false) && (scope.names.all fun y => decide (scope.names.lookup y.1 = some y.2)) && (own.all fun p => decide (N[p.2]? = some p.1)) &&
    (scope.names.all fun y => match y.2 with
      | .free => (match sc.names.lookup y.1 with | some .cell => true | some .free => true | _ => false)
      | .local => decide (y.1 ∈ own.map (·.1)) || decide (y.1 ∉ N)
      | .cell => decide (y.1 ∈ own.map (·.1)) || decide (y.1 ∉ N)
      | _ => true)
theorem blkOk_by {N : List Str} {sc scope : Scope} {own : List (Str × Nat)} (h : blkC N sc scope own = true) : BlkOk N sc scope own := by
  unfold blkC at h
  simp only [Bool.and_eq_true, List.all_eq_true, decide_eq_true_eq] at h
  obtain ⟨⟨⟨h1, h2⟩, h3⟩, h4⟩ := h
  refine ⟨?_, h2, h3, fun y hy e => ?_, fun y hy e => ?_⟩
  · split at h1
    · assumption
    · cases h1
  · have q := h4 y hy
    simp only [e] at q
    split at q <;> first | exact .inl (by assumption) | exact .inr (by assumption) | cases q
  · have q := h4 y hy
    rcases e with e | e <;> (simp only [e, Bool.or_eq_true, decide_eq_true_eq] at q; exact q)
end L2
namespace L2
open PySem PySem.Spec PyProof.Rows
section
variable {prog : Program} {w : World} {A : Around} {R : Result → Shared → Prop} {s : Shared} {elt t0 i0 t1 i1 : Expr} {ifs0 ifs1 : List Expr} {scope : Scope} {pos : Pos} {it acc : Value} {env : Env}
end
section
variable {X : Cx}
end
end L2
namespace L2
open PySem PySem.Spec PyProof.Rows
/-! ### lists of pairs as tables -/
section
variable {κ : Type} [DecidableEq κ]
def valV (kvs : List (κ × V)) (k : κ) : Option V := (kvs.find? fun kv => decide (kv.1 = k)).map (·.2)
/-- in its place, or at the end -/
def putK (kvs : List (κ × V)) (k : κ) (v : V) : List (κ × V) :=
  if (kvs.any fun kv => decide (kv.1 = k)) = true then kvs.map (fun kv => if kv.1 = k then (kv.1, v) else kv) else kvs ++ [(k, v)]
theorem valV_pos {p : κ × V} {r : List (κ × V)} {k : κ} (e : p.1 = k) : valV (p :: r) k = some p.2 := by simp [valV, List.find?_cons, e]
theorem valV_neg {p : κ × V} {r : List (κ × V)} {k : κ} (e : ¬ p.1 = k) : valV (p :: r) k = valV r k := by simp [valV, List.find?_cons, e]
theorem valV_any (k : κ) : ∀ kvs : List (κ × V), (kvs.any fun kv => decide (kv.1 = k)) = (valV kvs k).isSome
  | [] => rfl
  | p :: r => by
    rw [List.any_cons]
    by_cases e : p.1 = k
    · simp only [valV_pos e, decide_eq_true e, Bool.true_or, Option.isSome_some]
    · rw [valV_neg e, decide_eq_false e, Bool.false_or]; exact valV_any k r
theorem valV_map (k j : κ) (y : V) : ∀ kvs : List (κ × V), valV (kvs.map fun kv => if kv.1 = k then (kv.1, y) else kv) j = (valV kvs j).map fun x => if j = k then y else x
  | [] => rfl
  | p :: r => by
    have ih := valV_map k j y r
    rw [List.map_cons]
    by_cases h : p.1 = k
    · rw [if_pos h]
      by_cases e : p.1 = j
      · rw [valV_pos (p := (p.1, y)) e, valV_pos e, Option.map_some, if_pos (e.symm.trans h)]
      · rw [valV_neg (p := (p.1, y)) e, valV_neg e, ih]
    · rw [if_neg h]
      by_cases e : p.1 = j
      · rw [valV_pos (p := p) e, valV_pos e, Option.map_some, if_neg (fun z => h (e.trans z))]
      · rw [valV_neg (p := p) e, valV_neg e, ih]
theorem valV_snoc (k j : κ) (y : V) : ∀ kvs : List (κ × V), valV kvs k = none → valV (kvs ++ [(k, y)]) j = if j = k then some y else valV kvs j
  | [], _ => by
    by_cases e : k = j
    · rw [if_pos e.symm]; exact valV_pos (p := (k, y)) e
    · rw [if_neg (fun z => e z.symm)]; exact valV_neg (p := (k, y)) e
  | p :: r, hn => by
    rw [List.cons_append]
    have hk : ¬ p.1 = k := fun z => by rw [valV_pos z] at hn; cases hn
    rw [valV_neg hk] at hn
    have ih := valV_snoc k j y r hn
    by_cases e : p.1 = j
    · rw [valV_pos e, valV_pos e, if_neg (fun z => hk (e.trans z))]
    · rw [valV_neg e, valV_neg e, ih]
theorem valV_put (kvs : List (κ × V)) (k j : κ) (y : V) : valV (putK kvs k y) j = if j = k then some y else valV kvs j := by
  unfold putK
  by_cases a : (kvs.any fun kv => decide (kv.1 = k)) = true
  · rw [if_pos a, valV_map]
    rw [valV_any] at a
    by_cases e : j = k
    · obtain ⟨x, hx⟩ := Option.isSome_iff_exists.mp a
      rw [if_pos e, e, hx, Option.map_some, if_pos rfl]
    · rw [if_neg e]
      cases valV kvs j with
      | none => rfl
      | some x => rw [Option.map_some, if_neg e]
  · rw [if_neg a]
    refine valV_snoc k j y kvs ?_
    rw [valV_any] at a
    cases q : valV kvs k with
    | none => rfl
    | some x => rw [q] at a; exact (a rfl).elim
theorem length_putK (kvs : List (κ × V)) (k : κ) (v : V) : (putK kvs k v).length ≤ kvs.length + 1 := by
  unfold putK
  split
  · rw [List.length_map]; omega
  · rw [List.length_append, List.length_cons, List.length_nil]; omega
theorem RelO.isSome_eq {o : Option V} {u : Option Value} (r : RelO o u) : o.isSome = u.isSome := by
  cases o with
  | none => cases u with
    | none => rfl
    | some _ => exact (show False from r).elim
  | some _ => cases u with
    | none => exact (show False from r).elim
    | some _ => rfl
/-- raw tables of the same keys -/
theorem KV.val {kvs : List (κ × V)} {vs : List (κ × Value)} (r : KV kvs vs) (k : κ) : RelO (valV kvs k) (valueAt vs k) := by
  unfold KV at r
  induction r with
  | nil => exact True.intro
  | @cons p q ps qs h t ih =>
    obtain ⟨h1, h2⟩ := h
    by_cases e : p.1 = k
    · have e' : q.1 = k := h1.symm.trans e
      have b : valueAt (q :: qs) k = some q.2 := by simp [valueAt, List.find?_cons, e']
      rw [valV_pos e, b]; exact h2
    · have e' : ¬ q.1 = k := fun z => e (h1.trans z)
      have b : valueAt (q :: qs) k = valueAt qs k := by simp [valueAt, List.find?_cons, e']
      rw [valV_neg e, b]; exact ih
theorem KV.any {kvs : List (κ × V)} {vs : List (κ × Value)} (r : KV kvs vs) (k : κ) : (kvs.any fun kv => decide (kv.1 = k)) = vs.any fun kv => decide (kv.1 = k) := by
  unfold KV at r
  induction r with
  | nil => rfl
  | cons h t ih => rw [List.any_cons, List.any_cons, ih, h.1]
theorem KV.repl {kvs : List (κ × V)} {vs : List (κ × Value)} (r : KV kvs vs) (k : κ) {y : V} {u : Value} (ry : RelV y u) :
    KV (kvs.map fun kv => if kv.1 = k then (kv.1, y) else kv) (vs.map fun kv => if kv.1 = k then (kv.1, u) else kv) := by
  unfold KV at r ⊢
  induction r with
  | nil => exact .nil
  | @cons p q ps qs h t ih =>
    rw [List.map_cons, List.map_cons]
    refine .cons ?_ ih
    obtain ⟨h1, h2⟩ := h
    by_cases e : p.1 = k
    · rw [if_pos e, if_pos (h1.symm.trans e)]; exact ⟨h1, ry⟩
    · rw [if_neg e, if_neg (fun z => e (h1.trans z))]; exact ⟨h1, h2⟩
theorem KV.put {kvs : List (κ × V)} {vs : List (κ × Value)} (r : KV kvs vs) (k : κ) {y : V} {u : Value} (ry : RelV y u) : KV (putK kvs k y) (stored vs k u) := by
  unfold putK stored
  rw [r.any k]
  by_cases e : (vs.any fun kv => decide (kv.1 = k)) = true
  · rw [if_pos e, if_pos e]; exact r.repl k ry
  · rw [if_neg e, if_neg e]; exact Paired.snoc r ⟨rfl, ry⟩
theorem KV.length {kvs : List (κ × V)} {vs : List (κ × Value)} (r : KV kvs vs) : kvs.length = vs.length := Paired.length r
end
/-! ### a tracked dict, its keys ints and texts or tuples of these -/
theorem kV_is {P : Program} {w : World} {k : Key} {u : Value} (r : RelV (kV k) u) : (mixKind P w).is k u = true := by
  cases k with
  | inl i => obtain ⟨t, e⟩ := (show ∃ t, u = Value.int i t from r); subst e; exact mixKind_int P w i t
  | inr x => obtain ⟨t, e⟩ := (show ∃ t, u = Value.str x t from r); subst e; exact mixKind_str P w x t
theorem items_are {P : Program} {w : World} : ∀ {ks : List Key} {us : List Value}, Vals (ks.map kV) us → ItemsAre (mixKind P w) ks us
  | [], _, r => by rw [List.map_nil] at r; cases r; exact .nil
  | k :: ks, _, r => by
    rw [List.map_cons] at r
    cases r with
    | cons h t => exact .cons (kV_is h) (items_are t)
/-- raw entries of a dict with tuple keys -/
abbrev KT (H : Hp) : List (List Key × V) → List (List Key × Addr × Value) → Prop := Paired fun p q => p.1 = q.1 ∧ H q.2.1 = some (.tup (p.1.map kV)) ∧ RelV p.2 q.2.2
theorem KT.val {H : Hp} {kvs : List (List Key × V)} {xs : List (List Key × Addr × Value)} (r : KT H kvs xs) (k : List Key) : RelO (valV kvs k) ((atKey xs k).map (·.2)) := by
  induction r with
  | nil => exact True.intro
  | @cons p q ps qs h t ih =>
    obtain ⟨h1, _, h2⟩ := h
    by_cases e : p.1 = k
    · have e' : q.1 = k := h1.symm.trans e
      have b : atKey (q :: qs) k = some q.2 := by simp [atKey, List.find?_cons, e']
      rw [valV_pos e, b]; exact h2
    · have e' : ¬ q.1 = k := fun z => e (h1.trans z)
      have b : atKey (q :: qs) k = atKey qs k := by simp [atKey, List.find?_cons, e']
      rw [valV_neg e, b]; exact ih
theorem KT.repl {H : Hp} {kvs : List (List Key × V)} {xs : List (List Key × Addr × Value)} (r : KT H kvs xs) (k : List Key) {y : V} {u : Value} (ry : RelV y u) :
    KT H (kvs.map fun kv => if kv.1 = k then (kv.1, y) else kv) (xs.map (putAt k u)) := by
  induction r with
  | nil => exact .nil
  | @cons p q ps qs h t ih =>
    rw [List.map_cons, List.map_cons]
    refine .cons ?_ ih
    obtain ⟨h1, h2, h3⟩ := h
    unfold putAt
    by_cases e : p.1 = k
    · rw [if_pos e, if_pos (h1.symm.trans e)]; exact ⟨h1, h2, ry⟩
    · rw [if_neg e, if_neg (fun z => e (h1.trans z))]; exact ⟨h1, h2, h3⟩
theorem KT.put {H : Hp} {kvs : List (List Key × V)} {xs : List (List Key × Addr × Value)} (r : KT H kvs xs) (k : List Key) {b : Addr} {y : V} {u : Value} (hb : H b = some (.tup (k.map kV))) (ry : RelV y u) :
    KT H (putK kvs k y) (storedH xs k b u) := by
  have e : (kvs.any fun kv => decide (kv.1 = k)) = (atKey xs k).isSome := by
    rw [valV_any, (r.val k).isSome_eq, Option.isSome_map]
  unfold putK storedH
  rw [e]
  by_cases q : (atKey xs k).isSome = true
  · rw [if_pos q, if_pos q]; exact r.repl k ry
  · rw [if_neg q, if_neg q]; exact Paired.snoc r ⟨rfl, hb, ry⟩
theorem KT.keeps {H H' : Hp} {kvs : List (List Key × V)} {xs : List (List Key × Addr × Value)} (r : KT H kvs xs) (ht : ∀ b ys, H b = some (.tup ys) → H' b = some (.tup ys)) : KT H' kvs xs :=
  Paired.mapP r fun _ _ z => ⟨z.1, ht _ _ z.2.1, z.2.2⟩
section
variable {P : Program} {w : World} {H : Hp} {h : Heap} {a : Addr}
theorem rd_of {u : HO} (ok : HOk P w H h) (e : Rd H a u) : ObjOk P w H h a u := e.ok ok
theorem dk_rd {kvs : List (Key × V)} (ok : HOk P w H h) (e : Rd H a (.dK kvs)) : kvs.length ≤ sizeLine ∧ (a == sysModules) = false ∧ ∃ vs, KV kvs vs ∧ h.DictOf (mixKind P w) a vs :=
  show ObjOk P w H h a (.dK kvs) from rd_of ok e
theorem dk_of {kvs : List (Key × V)} (ok : HOk P w H h) (e : H a = some (.dK kvs)) : kvs.length ≤ sizeLine ∧ (a == sysModules) = false ∧ ∃ vs, KV kvs vs ∧ h.DictOf (mixKind P w) a vs := dk_rd ok (.inl e)
/-- a tracked tuple of ints and texts is a key -/
theorem key_of {ks : List Key} (ok : HOk P w H h) (e : H a = some (.tup (ks.map kV))) : (tupleKind (mixKind P w)).is h ks a := by
  obtain ⟨_, its, r, o, h1, h2, n, h3⟩ := (show ObjOk P w H h a (.tup (ks.map kV)) from ok a _ e)
  exact ⟨o, its.toArray, n, h1, h2, h3, by simpa using items_are r⟩
theorem dt_rd {kvs : List (List Key × V)} (ok : HOk P w H h) (e : Rd H a (.dT kvs)) : kvs.length ≤ sizeLine ∧ (a == sysModules) = false ∧
    ∃ xs, KT H kvs xs ∧ h.DictOfH (tupleKind (mixKind P w)) a xs := by
  obtain ⟨z, y, xs, r, o, es, ep, h1, h2, h3, h4, h5⟩ := (show ObjOk P w H h a (.dT kvs) from rd_of ok e)
  refine ⟨z, y, xs, r, o, es, ep, h1, h2, h3, h4, fun x hx => ?_, h5⟩
  have all : ∀ {l : List (List Key × V)} {m : List (List Key × Addr × Value)}, KT H l m → ∀ x ∈ m, (tupleKind (mixKind P w)).is h x.1 x.2.1 := by
    intro l m q
    induction q with
    | nil => intro x hx; exact nomatch hx
    | @cons p q ps qs hq t ih =>
      intro x hx
      rcases List.mem_cons.mp hx with e | hx
      · subst e
        exact key_of ok (by rw [← hq.1]; exact hq.2.1)
      · exact ih x hx
  exact all r x hx
theorem dt_of {kvs : List (List Key × V)} (ok : HOk P w H h) (e : H a = some (.dT kvs)) : kvs.length ≤ sizeLine ∧ (a == sysModules) = false ∧
    ∃ xs, KT H kvs xs ∧ h.DictOfH (tupleKind (mixKind P w)) a xs := dt_rd ok (.inl e)
end
/-- what the dict at a holds at the key y -/
def DGet (H : Hp) (a : Addr) (y : V) (r : Option V) : Prop :=
  (∃ kvs k, Rd H a (.dK kvs) ∧ y = kV k ∧ r = valV kvs k) ∨ ∃ kvs k b, Rd H a (.dT kvs) ∧ y = .ref b ∧ H b = some (.tup (k.map kV)) ∧ r = valV kvs k
/-- the heap behind a[y] = v -/
def DPut (H : Hp) (a : Addr) (y v : V) (H' : Hp) : Prop :=
  (∃ kvs k, H a = some (.dK kvs) ∧ y = kV k ∧ kvs.length < sizeLine ∧ H' = upd H a (.dK (putK kvs k v))) ∨
  ∃ kvs k b, H a = some (.dT kvs) ∧ y = .ref b ∧ H b = some (.tup (k.map kV)) ∧ kvs.length < sizeLine ∧ H' = upd H a (.dT (putK kvs k v))
theorem DGet.t {H : Hp} {a b : Addr} {kvs : List (List Key × V)} {k : List Key} (e : H a = some (.dT kvs)) (eb : H b = some (.tup (k.map kV))) : DGet H a (.ref b) (valV kvs k) := .inr ⟨kvs, k, b, .inl e, rfl, eb, rfl⟩
theorem DPut.t {H : Hp} {a b : Addr} {kvs : List (List Key × V)} {k : List Key} {v : V} (e : H a = some (.dT kvs)) (eb : H b = some (.tup (k.map kV))) (hl : kvs.length < sizeLine) :
    DPut H a (.ref b) v (upd H a (.dT (putK kvs k v))) := .inr ⟨kvs, k, b, e, rfl, eb, hl, rfl⟩
section
variable {X : Cx} {pins : List (Addr × Obj)} {σ : St} {H : Hp} {s : Shared} {a : Addr} {y v : V} {u r : Value} {o : Option V} {A : Around} {E : Value → Shared → Prop}
theorem Inv.big (I : Inv X pins σ H s) : sysModules < s.heap.objs.size := by
  have h : mainGlobals < s.heap.objs.size := (I.mod.glob.keeps I.bk).lt
  exact Nat.lt_trans (by decide) h
/-- d[y], there -/
theorem d_getItem {Q : Value → Shared → Prop} (hu : A.units + 1 < cLine) (I : Inv X pins σ H s) (g : DGet H a y (some v)) (ry : RelV y u) (h : ∀ w' s', Inv X pins σ H s' → RelV v w' → Q w' s') :
    wpAny (model X.prog X.w) A (getItem (.ref a) u) Q E s := by
  rcases g with ⟨kvs, k, e, ey, l⟩ | ⟨kvs, k, b, e, ey, eb, l⟩
  · subst ey
    obtain ⟨z, hd, vs, rel, dd⟩ := dk_rd I.hok e
    obtain ⟨w', hw, rw'⟩ := RelO.some_of (v := v) (o := valueAt vs k) (by rw [l]; exact rel.val k)
    exact wpAny_getItem_of (kV_is ry) dd.mapOf hw (h w' _ (I.tok _) rw')
  · subst ey
    cases (show u = Value.ref b from ry)
    obtain ⟨z, hd, xs, rel, dd⟩ := dt_rd I.hok e
    obtain ⟨w', hw, rw'⟩ := RelO.some_of (v := v) (o := (atKey xs k).map (·.2)) (by rw [l]; exact rel.val k)
    obtain ⟨p, hp, hp2⟩ := Option.map_eq_some_iff.mp hw
    refine wpAny_getItem_heap (tupleKind_room_in1 hu) (key_of I.hok eb) dd hp ?_
    rw [hp2]
    exact h w' _ (I.tok _) rw'
/-- y in d -/
theorem d_in {Q : Value → Shared → Prop} (hu : A.units + 1 < cLine) (I : Inv X pins σ H s) (g : DGet H a y o) (ry : RelV y u) (h : ∀ s', Inv X pins σ H s' → Q (.bool o.isSome) s') :
    wpAny (model X.prog X.w) A (compareOp .In u (.ref a)) Q E s := by
  rcases g with ⟨kvs, k, e, ey, l⟩ | ⟨kvs, k, b, e, ey, eb, l⟩
  · subst ey
    obtain ⟨z, hd, vs, rel, dd⟩ := dk_rd I.hok e
    refine wpAny_in_of (kV_is ry) hd dd.mapOf ?_
    rw [← (rel.val k).isSome_eq, ← l]
    exact h _ (I.tok _)
  · subst ey
    cases (show u = Value.ref b from ry)
    obtain ⟨z, hd, xs, rel, dd⟩ := dt_rd I.hok e
    refine wpAny_in_heap (tupleKind_room_in1 hu) (key_of I.hok eb) hd dd ?_
    have q := (rel.val k).isSome_eq
    rw [Option.isSome_map] at q
    rw [← q, ← l]
    exact h _ (I.tok _)
/-- a dict's object is replaced -/
theorem d_write {h' : Heap} {t' : Nat} {ob : HO} (I : Inv X pins σ H s) (mu : Mut (H a)) (hs : Heap.SameBut a s.heap h') (he : ∃ q, h'.get? a = some q) (new : ObjOk X.prog X.w (upd H a ob) h' a ob) :
    Inv X pins σ (upd H a ob) { s with heap := h', toks := t' } :=
  I.write (x := a) (e := a) mu (.inl rfl) (fun b q hb z => (hs.2 b hb).trans z) he new
theorem dk_new {P : Program} {w : World} {H' : Hp} {h' : Heap} {kvs : List (Key × V)} {vs : List (Key × Value)} (z : kvs.length ≤ sizeLine) (hd : (a == sysModules) = false) (rel : KV kvs vs) (dd : h'.DictOf (mixKind P w) a vs) :
    ObjOk P w H' h' a (.dK kvs) := ⟨z, hd, vs, rel, dd⟩
/-- d[y] = v -/
theorem d_setItem {H' : Hp} {Q : Unit → Shared → Prop} (hu : A.units + 1 < cLine) (I : Inv X pins σ H s) (g : DPut H a y v H') (ry : RelV y u) (rv : RelV v r) (h : ∀ s', Inv X pins σ H' s' → Q () s') :
    wpAny (model X.prog X.w) A (setItem (.ref a) u r) Q E s := by
  rcases g with ⟨kvs, k, e, ey, l, eH⟩ | ⟨kvs, k, b, e, ey, eb, l, eH⟩
  · subst ey eH
    obtain ⟨z, hd, vs, rel, dd⟩ := dk_of I.hok e
    have hz : vs.length ≤ sizeLine := by rw [← rel.length]; exact z
    have hl : (putK kvs k v).length ≤ sizeLine := by have := length_putK kvs k v; omega
    refine wpAny_setItem_pairs (hsz := hz) (kV_is ry) dd fun h' dd' hs => h _ ?_
    have he : ∃ q, h'.get? a = some q := let ⟨q, _, _, hq, _⟩ := dd'; ⟨q, hq⟩
    exact d_write I (by rw [e]; exact True.intro) hs he (dk_new hl hd (rel.put k rv) dd')
  · subst ey eH
    cases (show u = Value.ref b from ry)
    obtain ⟨z, hd, xs, rel, dd⟩ := dt_of I.hok e
    have hz : xs.length ≤ sizeLine := by rw [← Paired.length rel]; exact z
    have hl : (putK kvs k v).length ≤ sizeLine := by have := length_putK kvs k v; omega
    refine wpAny_setItem_heap (hsz := hz) (tupleKind_room_in1 hu) (key_of I.hok eb) dd fun h' dd' hs => h _ ?_
    obtain ⟨q, es, ep, hq, h2, h3, h4, _, h5⟩ := dd'
    refine d_write I (by rw [e]; exact True.intro) hs ⟨q, hq⟩ ⟨hl, hd, _, (rel.put k eb rv).keeps fun c ys ec => ?_, q, es, ep, hq, h2, h3, h4, h5⟩
    rw [upd_ne (ne_of ec e (fun z => nomatch z))]
    exact ec
end
section
variable {X : Cx} {pins : List (Addr × Obj)} {σ : St} {H : Hp} {s : Shared} {a : Addr} {kvs : List (Key × V)} {k : Key} {u : Value} {A : Around} {E : Value → Shared → Prop}
end
/-! ### readings and rules -/
/-- the element of a subscription, not a slice -/
def NoSl (i : Expr) : Prop := ∀ ov iv, subscripted i false ov iv = operate [ov, iv] (getItem ov iv)
theorem subD_of {prog : Program} {w : World} {A : Around} {E : Value → Shared → Prop} {s : Shared} {env : Env} {value slice : Expr} {pos : Pos} {T id : String} {Q : Value → Shared → Prop}
    (hl : typeLookup (.type T) "__getitem__" = pure (some (.builtin id))) (hs : NoSl slice)
    (h : wpAny (model prog w) A (eval value env) (fun o s₁ => wpAny (model prog w) A (eval slice env) (fun i s₂ => s₂.TypeIs o T ∧ wpAny (model prog w) A (getItem o i) Q E s₂) E s₁) E s) :
    wpAny (model prog w) A (eval (.Subscript value slice pos) env) Q E s := by
  refine Subscript_ (wpAny_mono h (fun o s₁ h₁ => wpAny_mono h₁ (fun i s₂ h₂ => ?_) fun _ _ x => x) fun _ _ x => x)
  obtain ⟨hT, h₂⟩ := h₂
  unfold subscriptTail
  refine wpAny_bind ?_
  rw [getitemInPython_of_ne hT.not_modules]
  refine wpAny_bind (wpAny_specialOf hT hl ?_)
  have fin : wpAny (model prog w) A (subscripted slice false o i) (fun r s₃ => wpAny (model prog w) A (letTemporaryGo value o r >>= fun _ => pure r) Q E s₃) E s₂ := by
    rw [hs o i]
    exact wpAny_operating (wpAny_mono h₂ (fun r s₃ h₃ => wpAny_bind (wpAny_letTemporaryGo (wpAny_pure h₃))) fun _ _ x => x)
  first
    | exact wpAny_pure (wpAny_bind fin)
    | exact wpAny_bind (wpAny_pure (wpAny_bind fin))
    | exact wpAny_bind fin
theorem dict_typeIs {X : Cx} {pins : List (Addr × Obj)} {σ : St} {H : Hp} {s : Shared} {a : Addr} {y : V} {o : Option V} (I : Inv X pins σ H s) (g : DGet H a y o) : s.TypeIs (.ref a) "dict" := by
  rcases g with ⟨kvs, k, e, _, _⟩ | ⟨kvs, k, b, e, _, _, _⟩
  · obtain ⟨_, _, vs, _, dd⟩ := dk_rd I.hok e
    exact dd.typeIs
  · obtain ⟨_, _, xs, _, dd⟩ := dt_rd I.hok e
    exact dd.typeIs
/-- d[y] -/
def tDGet (td ty : TE) : TE := fun σ H Q => td σ H fun x H1 => ty σ H1 fun y H2 => ∃ a v, x = .ref a ∧ DGet H2 a y (some v) ∧ Q v H2
/-- y in d, y not in d -/
def tDIn (ty td : TE) : TE := fun σ H Q => ty σ H fun y H1 => td σ H1 fun x H2 => ∃ a o, x = .ref a ∧ DGet H2 a y o ∧ Q (.bl o.isSome) H2
/-- d[y] = v -/
def sDPut (td ty tv : TE) : TS := fun D σ H => tv σ H fun v H1 => td σ H1 fun x H2 => ty σ H2 fun y H3 => ∃ a H4, x = .ref a ∧ DPut H3 a y v H4 ∧ D.nx σ H4
section
variable {X : Cx} {o i e value : Expr} {pos pos' tpos : Pos} {td ty tv : TE}
theorem pe_dget (hu : X.A.units + 1 < cLine) (ho : PE X o td) (hi : PE X i ty) (hs : NoSl i) : PE X (.Subscript o i pos) (tDGet td ty) := by
  intro pins s σ H Q I h
  refine subD_of PySem.F.slot_dict_getitem.lookup hs (thn (ho pins s σ H _ I h) fun u s1 ⟨x, H1, I1, rx, q1⟩ => thn (hi pins s1 σ H1 _ I1 q1) fun iv s2 ⟨y, H2, I2, ry, a, v, ex, g, q2⟩ => ?_)
  subst ex
  obtain rfl : u = Value.ref a := rx
  exact ⟨dict_typeIs I2 g, d_getItem hu I2 g ry fun w' s3 I3 rw' => ⟨v, H2, I3, rw', q2⟩⟩
theorem pc_din (hu : X.A.units + 1 < cLine) (hi : PE X i ty) (ho : PE X o td) : PC X .In i o (tDIn ty td) := by
  intro pins s σ H Q I h
  refine thn (hi pins s σ H _ I h) fun iv s1 ⟨y, H1, I1, ry, q1⟩ => thn (ho pins s1 σ H1 _ I1 q1) fun u s2 ⟨x, H2, I2, rx, a, ov, ex, g, q2⟩ => ?_
  subst ex
  obtain rfl : u = Value.ref a := rx
  exact d_in hu I2 g ry fun s3 I3 => ⟨.bl ov.isSome, H2, I3, rfl, q2⟩
theorem ps_dput (hu : X.A.units + 1 < cLine) (ho : PE X o td) (hi : PE X i ty) (hv : PE X value tv) (hs : swapsWith value (some (.Subscript o i pos')) pos.line X.env = pure false) :
    PS X (.Assign [.Subscript o i pos'] value pos) (sDPut td ty tv) := by
  intro pins s σ H D I h
  refine wpAny_Assign_Subscript (thn (hv pins s σ H _ I h) fun r s1 ⟨v, H1, I1, rv, q1⟩ => thn (ho pins s1 σ H1 _ I1 q1) fun u s2 ⟨x, H2, I2, rx, q2⟩ => thn (hi pins s2 σ H2 _ I2 q2) fun iv s3 ⟨y, H3, I3, ry, a, H4, ex, g, q3⟩ => ?_) hs
  subst ex
  obtain rfl : u = Value.ref a := rx
  exact d_setItem hu I3 g ry rv fun s4 I4 => ⟨σ, H4, I4, q3⟩
end
/-! ### displays -/
theorem dt_empty {P : Program} {w : World} {H : Hp} (h : Heap) (hb : sysModules < h.objs.size) : ObjOk P w H (h.push { cls := .type "dict", data := .dict #[] }) h.objs.size (.dT []) :=
  ⟨Nat.zero_le _, beq_eq_false_iff_ne.mpr (Ne.symm (Nat.ne_of_lt hb)), [], .nil, _, #[], 0, Heap.get?_push_size _ rfl, ⟨rfl, rfl, rfl⟩, rfl, rfl, List.nodup_nil⟩
def tDNewT : TE := fun _ H Q => ∀ p, H p = none → Q (.ref p) (upd H p (.dT []))
section
variable {X : Cx} {pos : Pos}
theorem pe_dnewT : PE X (.Dict [] [] pos) tDNewT := fun pins s σ H Q I h =>
  wpAny_Dict_empty ⟨.ref s.heap.objs.size, _, I.laid (a := s.heap.objs.size) (o := .dT []) (t' := s.toks) (fun _ _ q => Heap.get?_push_of_some _ q) (Nat.le_refl _) (dt_empty s.heap I.big), rfl, h _ (I.hok.fresh (Nat.le_refl _))⟩
end
/-! ### methods -/
section
variable {X : Cx} {pins : List (Addr × Obj)} {σ : St} {H : Hp} {s : Shared} {a : Addr} {y d : V} {u r : Value} {o : Option V} {A : Around} {E : Value → Shared → Prop}
end
section
variable {X : Cx} {o e f : Expr} {apos cpos : Pos} {td ty tx : TE}
end
/-! ### dict(d): a copy -/
section
variable {X : Cx} {pins : List (Addr × Obj)} {σ : St} {H : Hp} {s : Shared} {a : Addr} {kvs : List (Key × V)} {A : Around} {E : Value → Shared → Prop}
end
section
variable {X : Cx} {pins : List (Addr × Obj)} {σ : St} {H : Hp} {s : Shared} {a : Addr} {y : V} {u : Value} {A : Around} {E : Value → Shared → Prop}
end
end L2
namespace L2
open PySem PySem.Spec PyProof.Rows
section
variable {prog : Program} {w : World} {A : Around} {E : Value → Shared → Prop}
end
section
variable {X : Cx}
end
end L2
namespace L2
open PySem PySem.Spec PyProof.Rows
section
variable {X : Cx} {pins : List (Addr × Obj)} {σ : St} {H : Hp} {s : Shared} {h' : Heap}
/-- several records of ours have turned -/
theorem Inv.turnedL {t' : Nat} {ch : List Addr} (I : Inv X pins σ H s) (k : ∀ b o, b ∉ ch → s.heap.get? b = some o → h'.get? b = some o) (hf : ∀ b ∈ ch, FpOk X pins H b) : Inv X pins σ H { s with heap := h', toks := t' } := by
  have nit : ∀ b u, H b = some u → b ∉ ch := fun b u e z => by
    have q := (hf b z).1
    rw [q] at e; cases e
  refine I.step (g' := s.gens) (d' := s.drawn) (ch := ch) (fun b hb => ⟨(hf b hb).2.2.2.1, (hf b hb).2.1, (hf b hb).2.2.2.2.1, (hf b hb).2.2.2.2.2⟩) (fun b o _ _ hc e _ => k b o hc e) (fun b o _ _ hc e _ => ⟨o.slots, k b o hc e⟩)
    (fun _ _ _ _ n => n) (fun b o hc e => ⟨o, k b o hc e⟩) (fun _ _ e => e) (fun _ _ _ e => e) (fun b ps e => ⟨#[], by rw [e]; simp⟩) (fun m hm => ?_) (fun b u e => ?_) I.bare
  · obtain ⟨o, es, ep, ho, r⟩ := hm
    exact ⟨o, es, ep, k _ o (fun z => (hf _ z).2.1 rfl) ho, r⟩
  · refine (I.hok b u e).stay (fun c v hc q => k c v ?_ q) (fun _ q => q) fun _ _ q => q
    rcases hc with z | z
    · rw [z]; exact nit b u e
    · exact nit c _ z
/-- .. and one new object is laid -/
theorem Inv.turnedNew {t' : Nat} {ch : List Addr} {T : Addr} {ob : HO} (I : Inv X pins σ H s) (k : ∀ b o, b ∉ ch → s.heap.get? b = some o → h'.get? b = some o) (hf : ∀ b ∈ ch, FpOk X pins H b) (hT : s.heap.objs.size ≤ T)
    (new : ObjOk X.prog X.w (upd H T ob) h' T ob) : Inv X pins σ (upd H T ob) { s with heap := h', toks := t' } := by
  have hn : H T = none := I.hok.fresh hT
  have nit : ∀ b u, H b = some u → b ∉ ch := fun b u e z => by
    have q := (hf b z).1
    rw [q] at e; cases e
  refine I.step (g' := s.gens) (d' := s.drawn) (ch := ch) (fun b hb => ⟨(hf b hb).2.2.2.1, (hf b hb).2.1, (hf b hb).2.2.2.2.1, (hf b hb).2.2.2.2.2⟩) (fun b o _ _ hc e _ => k b o hc e) (fun b o _ _ hc e _ => ⟨o.slots, k b o hc e⟩)
    (fun b o _ e n => ?_) (fun b o hc e => ⟨o, k b o hc e⟩) (fun b xs e => ?_) (fun b o u e => ?_) (fun b ps e => ⟨#[], ?_⟩) (fun m hm => ?_) (fun b u e => ?_) I.bare
  · rw [upd_ne (Nat.ne_of_lt (Nat.lt_of_lt_of_le (Heap.lt_size e) hT))]; exact n
  · rw [upd_ne (ne_of_none e hn)]; exact e
  · rw [upd_ne (ne_of_none e hn)]; exact e
  · rw [upd_ne (ne_of_none e hn), e]; simp
  · obtain ⟨o, es, ep, ho, r⟩ := hm
    exact ⟨o, es, ep, k _ o (fun z => (hf _ z).2.1 rfl) ho, r⟩
  · by_cases hb : b = T
    · subst hb
      rw [upd_same] at e
      cases e
      exact new
    · rw [upd_ne hb] at e
      refine (I.hok b u e).stay (fun c v hc q => k c v ?_ q) (fun c q => by rw [upd_ne (ne_of_none q hn)]; exact q) fun c xs q => by rw [upd_ne (ne_of_none q hn)]; exact q
      rcases hc with z | z
      · rw [z]; exact nit b u e
      · exact nit c _ z
/-! ### locking a thing while a statement runs -/
end
section
variable {X : Cx}
/-! ### one iterator just laid -/
theorem pi_one {tg : Expr} {pins : List (Addr × Obj)} {σ : St} {H : Hp} {s : Shared} {R : It → Hp → Prop} {J : It} {tn : Nat → Heap → Prop} {tk : Nat} (I : Inv X pins σ H s) (o : Obj)
    (T : Turn X.prog X.w X.K tg J [s.heap.objs.size] s.heap.objs.size tn) (st : tn 0 (s.heap.push o)) (q : R J H) : PIE X pins σ tg R (.ref s.heap.objs.size) { s with heap := s.heap.push o, toks := tk } := by
  refine ⟨s.heap.objs.size, [s.heap.objs.size], tn, J, H, rfl, I.kept fun b ob e => Heap.get?_push_of_some _ e, T, st, fun b hb => ?_, q⟩
  have e : b = s.heap.objs.size := by simpa using hb
  subst e
  exact I.fpOk (Nat.le_refl _) (I.hok.fresh (Nat.le_refl _))
end
/-! ### range with a step -/
/-- lo, lo + c, .. (n of them) -/
def Itc (lo c : Int) (n : Nat) : It := ⟨fun i _ => i < n, fun i H x H' => H' = H ∧ x = .int (lo + (i : Nat) * c), fun i _ => n ≤ i⟩
theorem turn_rangeC {P : Program} {w : World} {K : PySem.W.Frag} {tg : Expr} (it : Addr) (lo c : Int) (n : Nat) : Turn P w K tg (Itc lo c n) [it] it (fun i h => IsRangeIter h it (lo + (i : Nat) * c) ((n : Int) - (i : Nat)) c) where
  mem := by simp
  obj := fun i h st b hb => by
    have e : b = it := by simpa using hb
    subst e
    exact ⟨_, st, fun v z => nomatch z⟩
  keep := fun i h h' st k => k it (by simp) _ st
  item := by
    intro X hP hw hK hc i pins s σ H E I hf st hg
    subst hP hw hK
    obtain ⟨f0, f1, f2, f3, f4, f5⟩ := hf it (by simp)
    have W := Walks.range (prog := X.prog) (w := X.w) (I.ok.hd hc) it lo c n
    refine W.item i s _ _ hg st fun v h' tk hv st' kk => ?_
    obtain ⟨t, rfl⟩ := hv
    have I1 : Inv X pins σ H { s with heap := h', toks := tk } := I.turned (fun b o hb e => kk b o (by simpa using hb) e) f0 f1 f3 f4 f5
    exact ⟨_, rfl, go_of (s := { s with heap := h', toks := tk }) (n := "range_iterator") st' rfl rfl (by decide) ⟨.int (lo + (i : Nat) * c), H, I1, ⟨t, rfl⟩, ⟨rfl, rfl⟩, st', fun b hb => (hf b hb).1⟩⟩
  done := by
    intro X hP hw hK hc i pins s σ H E I hf st hg
    subst hP hw hK
    obtain ⟨f0, f1, f2, f3, f4, f5⟩ := hf it (by simp)
    exact wpAny_pyNext_range_end (I.ok.hd hc) st (by have : n ≤ i := hg; omega) fun h' eb => ⟨rfl, I.turned (t' := s.toks) (fun b o hb e => eb b o hb e) f0 f1 f3 f4 f5⟩
  self := fun A i s Q E st h => wpAny_pyIter_rangeiter st h
/-- range(i, j, c): small bounds, n items -/
def RgC (i j c : Int) (n : Nat) : Prop := c ≠ 0 ∧ c.natAbs < 1073741824 ∧ Builtin.Range.small i j c = true ∧ Builtin.Range.rangeSize i j c = n
theorem RgC.neg {i j : Int} (ha : -(2 ^ 62) ≤ i) (ha' : i < 2 ^ 62) (hb : -(2 ^ 62) ≤ j) (hb' : j < 2 ^ 62) : RgC i j (-1) (i - j).toNat :=
  ⟨by decide, by decide, PySem.W.small_down ha ha' hb hb', PySem.W.rangeSize_downNat i j⟩
def iRng3 (ta : TA) : TI := fun σ H R => ta σ H fun vs H1 => ∃ (i j c : Int) (n : Nat), vs = [.int i, .int j, .int c] ∧ RgC i j c n ∧ R (Itc i c n) H1
section
variable {X : Cx} {tg : Expr}
theorem pi_range3 {a b c : Expr} {ta : TA} {p pos : Pos} (hg : Gl X "range") (hm : X.mg "range" = none) (ha : PA X [a, b, c] ta)
    (hs : starEach [a, b, c] X.env = (false, eval a X.env) :: starEach [b, c] X.env := by rfl) (hpl : (backTo pos (starEach [b, c] X.env)).any (·.1) = false := by rfl) :
    PI X tg (.Call (.Name "range" p) [a, b, c] [] pos) (iRng3 ta) := by
  intro pins s σ H R I h
  refine Call_ (ld_blt I hg hm boot_range (PyProof.Rows.callWith_type1 (thn (ha pos pins s σ H _ I h) fun us s1 ⟨vs, H1, I1, r1, q1⟩ => ?_) hs hpl))
  obtain ⟨i, j, k, n, e, ⟨c0, c1, c2, c3⟩, q⟩ := q1
  subst e
  cases r1 with
  | cons r rr =>
    cases rr with
    | cons r' rr =>
      cases rr with
      | cons r'' rr =>
        cases rr
        obtain ⟨t, rfl⟩ := r
        obtain ⟨t', rfl⟩ := r'
        obtain ⟨t'', rfl⟩ := r''
        refine call_range_3 c0 ?_ (.inl (PyProof.noPylong_small c1))
        refine wpAny_pyIter_range (IsRange.new ..) c2 ?_
        have I2 : Inv X pins σ H1 { s1 with heap := s1.heap.push { cls := .type "range", data := .fields #[.int i t, .int j t', .int k t''] } } := I1.kept (t' := s1.toks) fun b o e => Heap.get?_push_of_some _ e
        refine pi_one (tk := s1.toks) I2 _ (turn_rangeC _ i k n) ?_ q
        have e1 : i + ((0 : Nat) : Int) * k = i := by simp
        have e2 : (n : Int) - ((0 : Nat) : Int) = Builtin.Range.rangeSize i j k := by rw [c3]; simp
        show IsRangeIter _ _ (i + ((0 : Nat) : Int) * k) ((n : Int) - ((0 : Nat) : Int)) k
        rw [e1, e2]
        exact Heap.get?_push_size _ rfl
end
/-- the turns of a step range, for the for loop -/
theorem for_rangeC {lo c : Int} {n : Nat} {g : TG} {tb : TS} {D : Ends} {σ : St} {H : Hp} (Pv : Nat → St → Hp → Prop) (h0 : Pv 0 σ H)
    (hs : ∀ i σ H, i < n → Pv i σ H → g (.int (lo + (i : Nat) * c)) σ H fun σ2 H2 => tb { D with nx := Pv (i + 1), ct := Pv (i + 1), bk := D.nx } σ2 H2) (hd : ∀ σ H, Pv n σ H → D.nx σ H) :
    ∃ W : Nat → Nat → St → Hp → Prop, (∃ m, W 0 m σ H) ∧ ∀ i m σ H, W i m σ H →
      ((Itc lo c n).stop i H ∧ D.nx σ H) ∨ ((Itc lo c n).go i H ∧ ∃ N : St → Hp → Prop, (∀ σ' H', N σ' H' → ∃ m', m' < m ∧ W (i + 1) m' σ' H') ∧ ∀ x H', (Itc lo c n).yld i H x H' → g x σ H' fun σ2 H2 => tb { D with nx := N, ct := N, bk := D.nx } σ2 H2) := by
  refine ⟨fun i m σ H => m = n - i ∧ i ≤ n ∧ Pv i σ H, ⟨n, by simp, Nat.zero_le _, h0⟩, ?_⟩
  rintro i m σ H ⟨rfl, hi, p⟩
  by_cases hlt : i < n
  · refine .inr ⟨hlt, Pv (i + 1), fun σ' H' p' => ⟨n - (i + 1), by omega, rfl, hlt, p'⟩, fun x H' y => ?_⟩
    obtain ⟨e, y⟩ := y
    subst e y
    exact hs i σ _ hlt p
  · have e : i = n := by omega
    subst e
    exact .inl ⟨Nat.le_refl _, hd σ H p⟩
/-! ### reversed(list) -/
section
variable {X : Cx} {tg : Expr}
end
/-! ### a str -/
/-! ### a dict's keys: any dict's entries -/
section
variable {prog : Program} {w : World} {A : Around} {E : Value → Shared → Prop} {s : Shared}
end
/-! ### a locked dict -/
section
variable {X : Cx} {pins : List (Addr × Obj)} {σ : St} {H : Hp} {s : Shared} {d : Addr} {o : Obj}
end
section
variable {P : Program} {w : World} {K : PySem.W.Frag} {tg : Expr} {d : Addr} {o : Obj} {es : Array DictEntry} {ep : Nat}
end
/-! ### for k in d, d.keys(), d.values(), d.items() -/
section
variable {X : Cx} {tg e : Expr} {td : TE} {apos cpos : Pos}
end
/-! ### enumerate(list) -/
/-- the list at a as it stands at each turn, each item in a new pair -/
def Ite (K : PySem.W.Frag) (a : Addr) : It :=
  ⟨fun i H => ∃ (xs : List V) (x : V), SqL K H a xs ∧ xs[i]? = some x, fun i H v H' => ∃ T x, v = .ref T ∧ H T = none ∧ H' = upd H T (.tup [.int (i : Nat), x]) ∧ ∀ xs, SqL K H a xs → xs[i]? = some x, fun i H => ∃ xs : List V, SqL K H a xs ∧ xs.length ≤ i⟩
theorem turn_enum {P : Program} {w : World} {K : PySem.W.Frag} {elts : List Expr} {kk : Nat} {tpos : Pos} (a e it : Addr) :
    Turn P w K (.Tuple elts kk tpos) (Ite K a) [e, it] e (fun i h => (∃ old, IsEnum h e it ((i : Nat) : Int) old) ∧ h.IsListIter it a i ∧ e ≠ it) where
  mem := by simp
  obj := fun i h st b hb => by
    obtain ⟨⟨old, he⟩, ⟨o, ho, hc, hd⟩, _⟩ := st
    have e' : b = e ∨ b = it := by simpa using hb
    rcases e' with z | z
    · rw [z]; exact ⟨_, he, fun v q => nomatch q⟩
    · rw [z]; exact ⟨o, ho, fun v q => by rw [hd] at q; cases q⟩
  keep := fun i h h' st k => let ⟨⟨old, he⟩, hi, hne⟩ := st; ⟨⟨old, k e (by simp) _ he⟩, hi.at fun o q => k it (by simp) o q, hne⟩
  item := by
    intro X hP hw hK hc i pins s σ H E I hf st hg
    subst hP hw hK
    obtain ⟨⟨old, he⟩, hit, hne⟩ := st
    obtain ⟨xs, x, hq, hx⟩ := hg
    obtain ⟨its, rv, p, hz⟩ := I.list hq
    obtain ⟨u, hu, ru⟩ := rv.get hx
    have hel : e < s.heap.objs.size := Heap.lt_size he
    have hil : it < s.heap.objs.size := by obtain ⟨_, q, _⟩ := hit; exact Heap.lt_size q
    refine wpAny_pyNext_enum_item he hit p.isList (x := u) (by simpa using hu) hne fun h' ho hit' hT hsz hk => ?_
    refine ⟨_, rfl, wpAny_letOwnedTupleGo_enum (s := { s with heap := h', toks := s.toks + 1 }) ho fun h'' he' sb => ?_⟩
    have hT2 : h''.get? s.heap.objs.size = some { cls := .type "tuple", data := .seq #[.int i s.toks, u] } := (sb.2 _ (Nat.ne_of_gt hel)).trans hT
    have new : ObjOk X.prog X.w (upd H s.heap.objs.size (.tup [.int (i : Nat), x])) h'' s.heap.objs.size (.tup [.int (i : Nat), x]) :=
      ⟨by show 2 ≤ sizeLine; decide, [.int i s.toks, u], .cons ⟨_, rfl⟩ (.cons ru .nil), ⟨_, hT2, rfl, _, rfl⟩⟩
    have I1 : Inv X pins σ (upd H s.heap.objs.size (.tup [.int (i : Nat), x])) { s with heap := h'', toks := s.toks + 1 } :=
      I.turnedNew (ch := [e, it]) (fun b ob hb q => (sb.2 b (fun z => hb (by simp [z]))).trans (hk b ob (fun z => hb (by simp [z])) (fun z => hb (by simp [z])) q)) hf (Nat.le_refl _) new
    refine ⟨.ref s.heap.objs.size, _, I1, rfl, ⟨_, x, rfl, I.hok.fresh (Nat.le_refl _), rfl, fun ys hy => by rw [I.list_inj hy hq]; exact hx⟩, ⟨⟨u, ?_⟩, hit'.at fun o q => (sb.2 it (Ne.symm hne)).trans q, hne⟩, fun b hb => ?_⟩
    · have e1 : ((i + 1 : Nat) : Int) = (i : Int) + 1 := by omega
      rw [e1]; exact he'
    · have hb' : b < s.heap.objs.size := by
        have e' : b = e ∨ b = it := by simpa using hb
        rcases e' with z | z
        · rw [z]; exact hel
        · rw [z]; exact hil
      rw [upd_ne (Nat.ne_of_lt hb')]
      exact (hf b hb).1
  done := by
    intro X hP hw hK hc i pins s σ H E I hf st hg
    subst hP hw hK
    obtain ⟨⟨old, he⟩, hit, hne⟩ := st
    obtain ⟨xs, hq, hx⟩ := hg
    obtain ⟨its, rv, p, hz⟩ := I.list hq
    obtain ⟨f0, f1, f2, f3, f4, f5⟩ := hf it (by simp)
    have hl := rv.length
    exact wpAny_pyNext_enum_end (I.ok.hd hc) he hit p.isList (by simp; omega) fun h' eb => ⟨rfl, I.turned (t' := s.toks) (fun b o hb q => eb b o hb q) f0 f1 f3 f4 f5⟩
  self := fun A i s Q E st h => let ⟨⟨_, he⟩, _⟩ := st; wpAny_pyIter_enum he h
def iEnum (K : PySem.W.Frag) (ta : TA) : TI := fun σ H R => ta σ H fun vs H1 => ∃ a xs, vs = [.ref a] ∧ SqL K H1 a xs ∧ R (Ite K a) H1
theorem pi_enum {X : Cx} {e : Expr} {ta : TA} {p pos tpos : Pos} {elts : List Expr} {kk : Nat} (hg : Gl X "enumerate") (hm : X.mg "enumerate" = none) (ha : PA X [e] ta) (hs : starEach [e] X.env = [(false, eval e X.env)] := by rfl) :
    PI X (.Tuple elts kk tpos) (.Call (.Name "enumerate" p) [e] [] pos) (iEnum X.K ta) := by
  intro pins s σ H R I h
  refine Call_ (ld_blt I hg hm boot_enumerate (PyProof.Rows.callWith_type1 (thn (ha pos pins s σ H _ I h) fun us s1 ⟨vs, H1, I1, r1, q1⟩ => ?_) hs rfl))
  obtain ⟨a, xs, ex, hq, q⟩ := q1
  subst ex
  cases r1 with
  | cons r rr =>
    cases rr
    cases r
    obtain ⟨its, rv, p', hz⟩ := I1.list hq
    refine call_enumerate_list p'.isList fun h' he hit hsz hk => wpAny_pyIter_enum he ?_
    have I2 : Inv X pins σ H1 { s1 with heap := h' } := I1.kept (t' := s1.toks) hk
    refine ⟨s1.heap.objs.size + 1, [s1.heap.objs.size + 1, s1.heap.objs.size], _, _, H1, rfl, I2, turn_enum a (s1.heap.objs.size + 1) s1.heap.objs.size, ⟨⟨.none, he⟩, hit, Nat.succ_ne_self _⟩, fun b hb => ?_, q⟩
    have e' : b = s1.heap.objs.size + 1 ∨ b = s1.heap.objs.size := by simpa using hb
    have hle : s1.heap.objs.size ≤ b := by
      rcases e' with z | z
      · rw [z]; exact Nat.le_add_right _ _
      · rw [z]; exact Nat.le_refl _
    exact I1.fpOk hle (I1.hok.fresh hle)
/-! ### zip(list, list) -/
theorem boot_zip5 : bootBuiltins "zip" = some (.type "zip") := by decide +kernel
/-- the lists at a and b as they stand at each turn, the items in new pairs -/
def Itz (K : PySem.W.Frag) (a b : Addr) : It :=
  ⟨fun i H => ∃ (xs ys : List V) (x y : V), SqL K H a xs ∧ SqL K H b ys ∧ xs[i]? = some x ∧ ys[i]? = some y,
    fun i H v H' => ∃ T x y, v = .ref T ∧ H T = none ∧ H' = upd H T (.tup [x, y]) ∧ (∀ xs, SqL K H a xs → xs[i]? = some x) ∧ ∀ ys, SqL K H b ys → ys[i]? = some y,
    fun i H => ∃ xs ys : List V, SqL K H a xs ∧ SqL K H b ys ∧ (xs.length ≤ i ∨ ys.length ≤ i)⟩
theorem turn_zip {P : Program} {w : World} {K : PySem.W.Frag} {elts : List Expr} {kk : Nat} {tpos : Pos} {a b z TI TO i1 i2 : Addr} (D : ZipApart z TI TO i1 i2 a b) :
    Turn P w K (.Tuple elts kk tpos) (Itz K a b) [z, TI, TO, i1, i2] z (fun i h => IsZip h z TI TO .none ∧ IsPair h TI (.ref i1) (.ref i2) ∧ (∃ x y, IsPair h TO x y) ∧ h.IsListIter i1 a i ∧ h.IsListIter i2 b i) where
  mem := by simp
  obj := fun i h st c hc => by
    obtain ⟨hz, hTI, ⟨x, y, hTO⟩, ⟨o1, e1, _, d1⟩, ⟨o2, e2, _, d2⟩⟩ := st
    have e' : c = z ∨ c = TI ∨ c = TO ∨ c = i1 ∨ c = i2 := by simpa using hc
    rcases e' with q | q | q | q | q
    · rw [q]; exact ⟨_, hz, fun v q => nomatch q⟩
    · rw [q]; exact ⟨_, hTI, fun v q => nomatch q⟩
    · rw [q]; exact ⟨_, hTO, fun v q => nomatch q⟩
    · rw [q]; exact ⟨o1, e1, fun v q => by rw [d1] at q; cases q⟩
    · rw [q]; exact ⟨o2, e2, fun v q => by rw [d2] at q; cases q⟩
  keep := fun i h h' st k => by
    obtain ⟨hz, hTI, ⟨x, y, hTO⟩, h1, h2⟩ := st
    exact ⟨k z (by simp) _ hz, k TI (by simp) _ hTI, ⟨x, y, k TO (by simp) _ hTO⟩, h1.at fun o q => k i1 (by simp) o q, h2.at fun o q => k i2 (by simp) o q⟩
  item := by
    intro X hP hw hK hc i pins s σ H E I hf st hg
    subst hP hw hK
    obtain ⟨hz, hTI, ⟨x0, y0, hTO⟩, h1, h2⟩ := st
    obtain ⟨xs, ys, x, y, hqx, hqy, hx, hy⟩ := hg
    obtain ⟨its, rv, p, _⟩ := I.list hqx
    obtain ⟨its2, rv2, p2, _⟩ := I.list hqy
    obtain ⟨u, hu, ru⟩ := rv.get hx
    obtain ⟨u2, hu2, ru2⟩ := rv2.get hy
    have hzl : z < s.heap.objs.size := Heap.lt_size hz
    refine wpAny_pyNext_zip_item D hz hTI hTO h1 h2 p.isList p2.isList (x := u) (y := u2) (by simpa using hu) (by simpa using hu2) fun h' z' TO' h1' h2' hT hsz hk => ?_
    refine ⟨_, rfl, wpAny_letOwnedTupleGo_zip (s := { s with heap := h' }) z' fun h'' z'' sb => ?_⟩
    have hT2 : h''.get? s.heap.objs.size = some { cls := .type "tuple", data := .seq #[u, u2] } := (sb.2 _ (Nat.ne_of_gt hzl)).trans hT
    have new : ObjOk X.prog X.w (upd H s.heap.objs.size (.tup [x, y])) h'' s.heap.objs.size (.tup [x, y]) :=
      ⟨by show 2 ≤ sizeLine; decide, [u, u2], .cons ru (.cons ru2 .nil), ⟨_, hT2, rfl, _, rfl⟩⟩
    have I1 : Inv X pins σ (upd H s.heap.objs.size (.tup [x, y])) { s with heap := h'' } :=
      I.turnedNew (t' := s.toks) (ch := [z, TI, TO, i1, i2]) (fun c o hb q => (sb.2 c (fun q' => hb (by simp [q']))).trans (hk c o (fun q' => hb (by simp [q'])) (fun q' => hb (by simp [q'])) (fun q' => hb (by simp [q'])) (fun q' => hb (by simp [q'])) q)) hf (Nat.le_refl _) new
    refine ⟨.ref s.heap.objs.size, _, I1, rfl, ⟨_, x, y, rfl, I.hok.fresh (Nat.le_refl _), rfl, fun l hl => by rw [I.list_inj hl hqx]; exact hx, fun l hl => by rw [I.list_inj hl hqy]; exact hy⟩, ⟨z'', ?_, ⟨u, u2, ?_⟩, ?_, ?_⟩, fun c hcm => ?_⟩
    · exact (sb.2 _ D.TIz).trans (hk _ _ D.TIz D.TITO D.TIi1 D.TIi2 hTI)
    · exact (sb.2 _ D.TOz).trans TO'
    · exact h1'.at fun o q => (sb.2 _ D.i1z).trans q
    · exact h2'.at fun o q => (sb.2 _ D.i2z).trans q
    · have hlt : c < s.heap.objs.size := by
        have e' : c = z ∨ c = TI ∨ c = TO ∨ c = i1 ∨ c = i2 := by simpa using hcm
        rcases e' with q | q | q | q | q
        · rw [q]; exact hzl
        · rw [q]; exact Heap.lt_size hTI
        · rw [q]; exact Heap.lt_size hTO
        · rw [q]; obtain ⟨_, e1, _⟩ := h1; exact Heap.lt_size e1
        · rw [q]; obtain ⟨_, e2, _⟩ := h2; exact Heap.lt_size e2
      rw [upd_ne (Nat.ne_of_lt hlt)]
      exact (hf c hcm).1
  done := by
    intro X hP hw hK hc i pins s σ H E I hf st hg
    subst hP hw hK
    obtain ⟨hz, hTI, ⟨x0, y0, hTO⟩, h1, h2⟩ := st
    obtain ⟨xs, ys, hqx, hqy, hend⟩ := hg
    obtain ⟨its, rv, p, _⟩ := I.list hqx
    obtain ⟨its2, rv2, p2, _⟩ := I.list hqy
    have l1 := rv.length
    have l2 := rv2.length
    have he : its.toArray[i]? = none ∨ its2.toArray[i]? = none := by
      rcases hend with q | q
      · exact .inl (by simp; omega)
      · exact .inr (by simp; omega)
    exact wpAny_pyNext_zip_end (I.ok.hd hc) D hz hTI hTO h1 h2 p.isList p2.isList he fun h' hk => ⟨rfl, I.turnedL (t' := s.toks) (ch := [z, TI, TO, i1, i2]) (fun c o hb q =>
      hk c o (fun q' => hb (by simp [q'])) (fun q' => hb (by simp [q'])) (fun q' => hb (by simp [q'])) (fun q' => hb (by simp [q'])) q) hf⟩
  self := fun A i s Q E st h => wpAny_pyIter_zip st.1 h
def iZip (K : PySem.W.Frag) (ta : TA) : TI := fun σ H R => ta σ H fun vs H1 => ∃ a b xs ys, vs = [.ref a, .ref b] ∧ SqL K H1 a xs ∧ SqL K H1 b ys ∧ R (Itz K a b) H1
theorem pi_zip {X : Cx} {e e2 : Expr} {ta : TA} {p pos tpos : Pos} {elts : List Expr} {kk : Nat} (hg : Gl X "zip") (hm : X.mg "zip" = none) (ha : PA X [e, e2] ta)
    (hs : starEach [e, e2] X.env = (false, eval e X.env) :: starEach [e2] X.env := by rfl) (hpl : (backTo pos (starEach [e2] X.env)).any (·.1) = false := by rfl) :
    PI X (.Tuple elts kk tpos) (.Call (.Name "zip" p) [e, e2] [] pos) (iZip X.K ta) := by
  intro pins s σ H R I h
  refine Call_ (ld_blt I hg hm boot_zip5 (PyProof.Rows.callWith_type1 (thn (ha pos pins s σ H _ I h) fun us s1 ⟨vs, H1, I1, r1, q1⟩ => ?_) hs hpl))
  obtain ⟨a, b, xs, ys, ex, hqx, hqy, q⟩ := q1
  subst ex
  cases r1 with
  | cons r rr =>
    cases rr with
    | cons r' rr =>
      cases rr
      cases r
      cases r'
      obtain ⟨its, rv, p1, _⟩ := I1.list hqx
      obtain ⟨its2, rv2, p2, _⟩ := I1.list hqy
      have la : a < s1.heap.objs.size := p1.lt
      have lb : b < s1.heap.objs.size := p2.lt
      refine call_zip_2 p1.isList p2.isList fun h' hz hTI hTO h1 h2 hsz hk => wpAny_pyIter_zip hz ?_
      have I2 : Inv X pins σ H1 { s1 with heap := h' } := I1.kept (t' := s1.toks) hk
      refine ⟨s1.heap.objs.size + 4, [s1.heap.objs.size + 4, s1.heap.objs.size + 2, s1.heap.objs.size + 3, s1.heap.objs.size, s1.heap.objs.size + 1], _, _, H1, rfl, I2, turn_zip (PySem.W.ktu_apart s1.heap.objs.size a b la lb), ⟨hz, hTI, ⟨_, _, hTO⟩, h1, h2⟩, fun c hcm => ?_, q⟩
      have e' : c = s1.heap.objs.size + 4 ∨ c = s1.heap.objs.size + 2 ∨ c = s1.heap.objs.size + 3 ∨ c = s1.heap.objs.size ∨ c = s1.heap.objs.size + 1 := by simpa using hcm
      have hle : s1.heap.objs.size ≤ c := by
        rcases e' with z | z | z | z | z
        · rw [z]; exact Nat.le_add_right _ _
        · rw [z]; exact Nat.le_add_right _ _
        · rw [z]; exact Nat.le_add_right _ _
        · rw [z]; exact Nat.le_refl _
        · rw [z]; exact Nat.le_add_right _ _
      exact I1.fpOk hle (I1.hok.fresh hle)
end L2
section 
namespace Bits
open PySem PyProof.Rows
end Bits
end 
section 
namespace TL
open PySem PySem.Builtin PySem.Builtin.Str PySem.StrLaws
/-! ### the list functions -/
/-! ### the model's split and partition are these -/
/-! ### computing spl and par -/
/-! ### digits -/
/-! ### words: x.split() -/
end TL
end 
namespace L2
open PySem PySem.Spec PyProof.Rows
section
variable {X : Cx} {pins : List (Addr × Obj)} {σ : St} {H : Hp} {s : Shared} {Q : VK}
end
section
variable {X : Cx}
/-! ### of a text alone -/
/-! ### of a text and a text -/
end
section
variable {X : Cx} {o e : Expr} {to te : TE}
end
end L2
namespace L2
open PySem PySem.Spec PyProof.Rows
section
variable {X : Cx}
end
/-! ### slices of a text -/
end L2
namespace Att
open PySem PySem.W PySem.Calls PyProof.Rows
/-! ### the script -/
/-! ### the attachment: holds_open's last premise (the goal 'hc' behind k_head) from a wpAny of the law's body -/
/-! ### rules over ANY heap (no ledger) from facts about the written part K: the library's own take a ledger (News) for what they write -/
section
variable {prog : Program} {w : World} {A : Around} {E : Value → Shared → Prop} {s : Shared} {K : Frag}
/-! the whole heap as the ledger: makes every rule that writes through a ledger a rule over any heap -/
end
end Att
namespace L2
open PySem PySem.Spec PyProof.Rows
end L2
namespace L2
open PySem PySem.Spec PyProof.Rows
end L2
/- THE LAST THEOREM (shape; LID, My.* are yours):
   My.Adr: a structure of the addresses that your layer names (classes, functions); My.Txt K t: a structure (Prop) of the equations over K;
   My.txt_mk : {K} {implicit addresses ..} (e1 : nsIn K mainGlobals "law" = some (some (.ref f))) (e2 : K.lookup f = some ⟨oc, od, .func (fnOf "law" "law" params body scope dV kV doc pm an cdv ct), sl⟩) (e3 : codeIn K cdv "law" = true) .. : ∃ t, My.Txt K t
set_option maxRecDepth 100000 in
set_option maxHeartbeats 0 in
theorem PySem.Challenge.cw_LID_holds : PySem.Challenge.rw_LID.Holds := by
  w_on; o_law; k_head; (case hw => w_witness2)
  k_fill
  refine L2.walk_of (l := PySem.Challenge.rw_LID) (n := 63) (k := 40) (x := "script") (CX := fun w => ..) (sp := fun _ => My.sp_law) rfl (by decide) rfl ⟨rfl, by decide, by decide⟩ (fun w h Y => PySem.W.kIn_of Y) ?F ?S ?C
  case F =>
    intro w mg fa h KX G hmg
    have T : ∃ t, My.Txt (L2.KOf KX) t := by
      dsimp only [L2.KOf]                          -- K must stand as «<heap const> w.params» for k_is
      refine' My.txt_mk ?e1 ?e2 ?e3 ..
      (case e1 => PySem.W.k_is)                    -- in the order: a name -> its address -> its object -> its parts
      (case e2 => PySem.W.k_is)
      ..
    obtain ⟨t, T⟩ := T
    have e0 := hmg.symm.trans (PySem.W.mg_of KX G T.law)
    cases e0                                       -- fa is the law's own address
    exact ⟨_, fun s u => .of_eq rfl, fun base kb nb => My.law_fn T kb nb⟩     -- if «.of_eq rfl» comes too early: refine' ⟨_, ?b, fun base kb nb => My.law_fn T kb nb⟩; exact fun s u => .of_eq rfl
  case S => exact fun w H a ns hl hO hS => ..
  case C => exact ..
(the tactic k_is has no namespace: write k_is) -/
/-! SHORT WORDS over the layer: a def of the text, its body, what a loop and a test want. -/
namespace L2
open PySem PySem.Spec PyProof.Rows
/-! ### the text by places -/
/-- the j-th statement of a class's body -/
def inClass (s : Stmt) (j : Nat) : Stmt := match s with
  | .ClassDef _ _ _ body _ _ _ _ _ _ _ => body.getD j (.Pass ⟨0, 0, 0, 0⟩)
  | _ => .Pass ⟨0, 0, 0, 0⟩
def defArgs (s : Stmt) : Arguments := match s with
  | .FunctionDef _ a _ _ _ _ _ _ _ _ => a
  | _ => { posonlyargs := [], args := [], vararg := none, kwonlyargs := [], kw_defaults := [], kwarg := none, defaults := [] }
def defBody (s : Stmt) : List Stmt := match s with
  | .FunctionDef _ _ b _ _ _ _ _ _ _ => b
  | _ => []
def defScope (s : Stmt) : Scope := match s with
  | .FunctionDef _ _ _ _ _ _ sc _ _ _ => sc
  | _ => { kind := .function, names := [], isGenerator := false, isCoroutine := false }
/-! ### no exception leaves a def -/
abbrev CX0 : CXT := fun _ _ _ _ _ _ => False
abbrev E0 : XK := fun _ _ _ => False
theorem pass0 {X : Cx} : Passes CX0 X E0 := fun _ _ _ _ _ _ _ h => h.elim
/-! ### a def (or method) of the text as it stands behind the top -/
structure Fun (K : PySem.W.Frag) (x qual : Str) (st : Stmt) (f : Addr) (fd : FuncData) : Prop where
  ex : ∃ (oc : Value) (od : Option Addr) (kV doc pm : Value) (an : Option Addr) (cdv ct : Value) (osl : Array (Option Value)),
    fd = PySem.W.fnOf x qual (defArgs st) (defBody st) (defScope st) .none kV doc pm an cdv ct ∧ K.lookup f = some ⟨oc, od, .func fd, osl⟩ ∧ PySem.W.codeIn K cdv qual = true
  kp : PySem.W.keepIn K (.ref f) = true
section
variable {P : Program} {w : World} {K : PySem.W.Frag} {mg : Str → Option Value} {base : Heap}
/-- THE RULE for a def: its body as a term of rules, and the reading of that term -/
theorem Fun.ok {x qual : Str} {st : Stmt} {f : Addr} {fd : FuncData} {N ps : List Str} {k : Nat} {sp : Sp} (F : Fun K x qual st f fd) (S : FnScope N ps (defScope st)) (len : ∀ vs H Q E, sp vs H Q E → vs.length = ps.length)
    (hbody : ∀ (cdv : Value) (A : Around) (outer : List Env) (s : Shared) (H : Hp) (vs : List V) (Q : VK) (E : XK), Room k (A.deeper (envOfC qual (defScope st) s.heap.objs.size f cdv)) → sp vs H Q E →
      ∃ t, PSs (cxOf CX0 P w K mg base N qual (defScope st) f cdv A outer s H E).nox (defBody st) t ∧ t { nx := fun _ H' => Q .non H', rt := Q } (start N vs) H) : FnOk P w K mg base CX0 (k + 1) f fd ps sp := by
  obtain ⟨oc, od, kV, doc, pm, an, cdv, ct, osl, rfl, lk, hcd⟩ := F.ex
  refine fn_of lk hcd S len fun A outer s H vs Q E hr hsp => ?_
  obtain ⟨t, h, q⟩ := hbody cdv A outer s H vs Q E hr hsp
  exact ⟨t, h.nox, q⟩
/-- how its arguments bind (no defaults): h is «fun _ _ _ _ _ _ us hl => match us, hl with | [_, _], _ => rfl», one _ a parameter -/
theorem Fun.binds {x qual : Str} {st : Stmt} {f : Addr} {fd : FuncData} {ps : List Str} (F : Fun K x qual st f fd)
    (h : ∀ (kV doc pm : Value) (an : Option Addr) (cdv ct : Value) (us : List Value), us.length = ps.length → bindArgs (PySem.W.fnOf x qual (defArgs st) (defBody st) (defScope st) .none kV doc pm an cdv ct) ⟨us, []⟩ = pure (ps.zip us)) : Binds K fd ps [] := by
  obtain ⟨oc, od, kV, doc, pm, an, cdv, ct, osl, rfl, lk, hcd⟩ := F.ex
  exact .all (h kV doc pm an cdv ct)
theorem fun_mk {x qual : Str} {st : Stmt} {f : Addr} {oc : Value} {od an : Option Addr} {osl : Array (Option Value)} {kV doc pm cdv ct : Value} (l : K.lookup f = some ⟨oc, od, .func (PySem.W.fnOf x qual (defArgs st) (defBody st) (defScope st) .none kV doc pm an cdv ct), osl⟩)
    (c : PySem.W.codeIn K cdv qual = true) (k : PySem.W.keepIn K (.ref f) = true) : Fun K x qual st f (PySem.W.fnOf x qual (defArgs st) (defBody st) (defScope st) .none kV doc pm an cdv ct) := ⟨⟨oc, od, kV, doc, pm, an, cdv, ct, osl, rfl, l, c⟩, k⟩
end
theorem hu_of {A : Around} {k : Nat} (hr : Room k A) : A.units + 1 < cLine := Nat.lt_of_le_of_lt (Nat.add_le_add_left (by decide : 1 ≤ 64) _) hr.units
/-! ### expressions in short: the name that stands in the i-th slot -/
section
variable {X : Cx}
theorem pv (i : Nat) {x : Str} {pos : Pos} (hN : X.N[i]? = some x := by rfl) (hv : Vis X.env.scope x := by first | exact Or.inl rfl | exact Or.inr (Or.inl rfl) | exact Or.inr (Or.inr rfl)) (hd : (x == ("__debug__" : Str)) = false := by decide)
    (hcd : (x == ("__classdict__" : Str)) = false := by decide) : PE X (.Name x pos) (tVar i) := pe_var hN hv hd hcd
end
/-! ### tests -/
theorem iteF {A B : Prop} (h : B) : if false = true then A else B := by
  rw [if_neg Bool.false_ne_true]
  exact h
theorem iteT {A B : Prop} (h : A) : if true = true then A else B := by
  rw [if_pos rfl]
  exact h
theorem ite2 {c A B : Prop} [Decidable c] (h1 : c → A) (h2 : ¬ c → B) : if c then A else B := by
  by_cases h : c
  · rw [if_pos h]
    exact h1 h
  · rw [if_neg h]
    exact h2 h
/-! ### heaps -/
/-- all that was tracked is as it was -/
def Same (H H' : Hp) : Prop := ∀ b o, H b = some o → H' b = some o
theorem Same.refl (H : Hp) : Same H H := fun _ _ h => h
theorem Same.trans {H H1 H2 : Hp} (a : Same H H1) (b : Same H1 H2) : Same H H2 := fun c o h => b c o (a c o h)
theorem Same.free {H H' : Hp} (e : Same H H') {l : Addr} (h : H' l = Option.none) : H l = Option.none := by
  cases q : H l with
  | none => rfl
  | some o =>
    rw [e l o q] at h
    cases h
theorem Same.seq {K : PySem.W.Frag} {H H' : Hp} {a : Addr} {xs : List V} (e : Same H H') (h : SqL K H a xs) : SqL K H' a xs := by
  rcases h with (h | ⟨o, h⟩) | h
  · exact .inl (.inl (e _ _ h))
  · exact .inl (.inr ⟨o, e _ _ h⟩)
  · exact .inr h
/-! ### a dict's pairs: keys that differ -/
section
variable {κ : Type} [DecidableEq κ]
end
/-! ### lists -/
theorem at_of {xs : List V} {z : Int} {j : Nat} {v : V} (e : z = (j : Int)) (h : xs[j]? = some v) : atI xs z = some v := by
  rw [e]
  exact atI_nat h
/-- a new instance and its __init__ leave all that was tracked as it was -/
theorem Same.made {H H1 : Hp} {x dx C : Addr} (nx : H x = Option.none) (nd : H dx = Option.none) (k : ∀ b o, (upd (upd H dx (.own x)) x (.ins C dx [])) b = some o → b ≠ x → H1 b = some o) : Same H H1 := fun b o e =>
  k b o (by rw [upd_ne (ne_of_none e nx), upd_ne (ne_of_none e nd)]; exact e) (ne_of_none e nx)
end L2

end
section
set_option maxHeartbeats 2000000
namespace L2
open PySem PySem.Spec PyProof.Rows
open PySem.W (WData Codec OpenSpec Well WellAll ReadsW ReadsAllW)
/-! ### an answer as data -/
mutual
/-- x stands for the datum d, lists and tuples all the way -/
inductive Dw (K : PySem.W.Frag) (H : Hp) : V → WData → Prop
  | non : Dw K H .non .none
  | bl (b : Bool) : Dw K H (.bl b) (.bool b)
  | int (i : Int) : Dw K H (.int i) (.int i)
  | str (x : Str) : Dw K H (.str x) (.str x)
  | byt (b : Array UInt8) : Dw K H (.byt b) (.bytes b.toList)
  | lst {a : Addr} {xs : List V} {ds : List WData} : SqL K H a xs → DwAll K H xs ds → Dw K H (.ref a) (.list ds)
  | tup {a : Addr} {xs : List V} {ds : List WData} : SqT K H a xs → DwAll K H xs ds → Dw K H (.ref a) (.tuple ds)
inductive DwAll (K : PySem.W.Frag) (H : Hp) : List V → List WData → Prop
  | nil : DwAll K H [] []
  | cons {v : V} {vs : List V} {d : WData} {ds : List WData} : Dw K H v d → DwAll K H vs ds → DwAll K H (v :: vs) (d :: ds)
end
theorem dw_ints {K : PySem.W.Frag} {H : Hp} : ∀ ns : List Int, DwAll K H (ns.map V.int) (ns.map WData.int)
  | [] => .nil
  | n :: r => .cons (.int n) (dw_ints r)
theorem ints_dw {K : PySem.W.Frag} {H : Hp} : ∀ (ns : List Int) (xs : List V), DwAll K H xs (ns.map WData.int) → xs = ns.map V.int
  | [], xs, h => by
    cases h
    rfl
  | n :: r, xs, h => by
    cases h with
    | cons h1 h2 =>
      cases h1
      rw [ints_dw r _ h2] <;> rfl
section
variable {P : Program} {w : World} {K : PySem.W.Frag} {H : Hp} {h : Heap} {R : PySem.W.WRecords} {cl : Str → Option Addr}
theorem sqL_at {a : Addr} {xs : List V} (hok : HOk P w H h) (KX : K.In h) (q : SqL K H a xs) : ∃ (its : List Value) (o : Obj) (n : Nat), Vals xs its ∧ h.get? a = some o ∧ o.cls = .type "list" ∧ o.data = .seq its.toArray n := by
  rcases q with q | ⟨o, its, n, e, hc, _, hd, _, hv⟩
  · obtain ⟨_, its, n, hv, e⟩ := (show ObjOk P w H h a (.lst xs) from q.ok hok)
    exact ⟨its, _, n, hv, e, rfl, rfl⟩
  · exact ⟨its.toList, o, n, hv, KX _ _ e, hc, by simp [hd]⟩
theorem sqT_at {a : Addr} {xs : List V} (hok : HOk P w H h) (KX : K.In h) (q : SqT K H a xs) : ∃ (its : List Value) (o : Obj) (n : Nat), Vals xs its ∧ h.get? a = some o ∧ o.cls = .type "tuple" ∧ o.data = .seq its.toArray n := by
  rcases q with q | ⟨o, its, n, e, hc, hd, _, hv⟩
  · obtain ⟨_, its, hv, o, e, hc, n, hd⟩ := (show ObjOk P w H h a (.tup xs) from q.ok hok)
    exact ⟨its, o, n, hv, e, hc, hd⟩
  · exact ⟨its.toList, o, n, hv, KX _ _ e, hc, by simp [hd]⟩
mutual
theorem Dw.reads (hok : HOk P w H h) (KX : K.In h) : ∀ (d : WData) (v : V) (u : Value), Dw K H v d → RelV v u → ∃ as, ReadsW R cl h u d as
  | .none, _, _, x, r => by
    cases x
    cases r
    exact ⟨_, ReadsW.none⟩
  | .bool b, _, _, x, r => by
    cases x
    cases r
    exact ⟨_, ReadsW.bool b⟩
  | .int i, _, _, x, r => by
    cases x
    obtain ⟨t, rfl⟩ := r
    exact ⟨_, ReadsW.int i t⟩
  | .str s, _, _, x, r => by
    cases x
    obtain ⟨t, rfl⟩ := r
    exact ⟨_, ReadsW.str s t⟩
  | .bytes b, _, _, x, r => by
    cases x
    obtain ⟨t, rfl⟩ := r
    exact ⟨_, ReadsW.bytes _ t⟩
  | .list ds, _, _, x, r => by
    cases x with
    | lst hs ha =>
      cases r
      obtain ⟨its, o, n, rv, ho, hc, hd⟩ := sqL_at hok KX hs
      obtain ⟨as, hr⟩ := Dw.readsAll hok KX ds _ its ha rv
      exact ⟨_, ReadsW.list ho hc hd hr⟩
  | .tuple ds, _, _, x, r => by
    cases x with
    | tup hs ha =>
      cases r
      obtain ⟨its, o, n, rv, ho, hc, hd⟩ := sqT_at hok KX hs
      obtain ⟨as, hr⟩ := Dw.readsAll hok KX ds _ its ha rv
      exact ⟨_, ReadsW.tuple ho hc hd hr⟩
  | .float _, _, _, x, _ => by cases x
  | .dict _, _, _, x, _ => by cases x
  | .bytearray _, _, _, x, _ => by cases x
  | .set _, _, _, x, _ => by cases x
  | .frozenset _, _, _, x, _ => by cases x
  | .obj _ _, _, _, x, _ => by cases x
theorem Dw.readsAll (hok : HOk P w H h) (KX : K.In h) : ∀ (ds : List WData) (vs : List V) (us : List Value), DwAll K H vs ds → Vals vs us → ∃ as, ReadsAllW R cl h us ds as
  | [], _, _, x, r => by
    cases x
    cases r
    exact ⟨_, ReadsAllW.nil⟩
  | d :: ds, _, _, x, r => by
    cases x with
    | cons h1 h2 =>
      cases r with
      | cons r1 r2 =>
        obtain ⟨as, q1⟩ := Dw.reads hok KX d _ _ h1 r1
        obtain ⟨bs, q2⟩ := Dw.readsAll hok KX ds _ _ h2 r2
        exact ⟨_, ReadsAllW.cons q1 q2⟩
end
end
/-! ### the arguments -/
mutual
/-- data that a codec tells -/
def plW : WData → Bool
  | .none => true
  | .bool _ => true
  | .int _ => true
  | .str _ => true
  | .bytes _ => true
  | .list xs => plWs xs
  | .tuple xs => plWs xs
  | _ => false
def plWs : List WData → Bool
  | [] => true
  | x :: r => plW x && plWs r
end
theorem plWs_map {α : Type} {f : α → WData} (h : ∀ a, plW (f a) = true) : ∀ l : List α, plWs (l.map f) = true
  | [] => rfl
  | x :: r => by
    show (plW (f x) && plWs (r.map f)) = true
    rw [h x, plWs_map h r] <;> rfl
theorem pl_enc : ∀ (c : Codec) (a : c.denote), plW (c.enc a) = true
  | .unit, _ => rfl
  | .bool, _ => rfl
  | .int _ _, _ => rfl
  | .nat _ _, _ => rfl
  | .u8, _ => rfl
  | .bytes _ _, _ => rfl
  | .text _ _ _ _, _ => rfl
  | .list _ _ c, a => plWs_map (fun x => pl_enc c x) a
  | .pair c d, a => by
    show (plW (c.enc a.1) && (plW (d.enc a.2) && true)) = true
    rw [pl_enc c a.1, pl_enc d a.2] <;> rfl
  | .triple c d e, a => by
    show (plW (c.enc a.1) && (plW (d.enc a.2.1) && (plW (e.enc a.2.2) && true))) = true
    rw [pl_enc c a.1, pl_enc d a.2.1, pl_enc e a.2.2] <;> rfl
  | .option c, none => rfl
  | .option c, some x => pl_enc c x
theorem pl_encAll : ∀ (cs : List Codec) (a : Codec.denoteAll cs), plWs (Codec.encAll cs a) = true
  | [], _ => rfl
  | c :: cs, a => by
    show (plW (c.enc a.1) && plWs (Codec.encAll cs a.2)) = true
    rw [pl_enc c a.1, pl_encAll cs a.2] <;> rfl
theorem weight_mem : ∀ {xs : List WData} {d : WData}, d ∈ xs → d.weight ≤ WData.weightAll xs
  | [], d, h => absurd h (by simp)
  | x :: r, d, h => by
    show d.weight ≤ x.weight + 1 + WData.weightAll r
    rcases List.mem_cons.mp h with e | m
    · rw [e]
      omega
    · have z := weight_mem m
      omega
def toV : Value → V
  | .none => .non
  | .bool b => .bl b
  | .int i _ => .int i
  | .str x _ => .str x
  | .bytes b _ => .byt b
  | .ref a => .ref a
  | _ => .non
/-- a value of the arguments, its objects among A -/
def OkU (A : List Addr) : Value → Prop
  | .none => True
  | .bool _ => True
  | .int _ _ => True
  | .str _ _ => True
  | .bytes _ _ => True
  | .ref a => a ∈ A
  | _ => False
theorem OkU.mono {A B : List Addr} (h : ∀ a ∈ A, a ∈ B) : ∀ {u : Value}, OkU A u → OkU B u := fun {u} x => by
  cases u with
  | ref a => exact h a x
  | none => trivial
  | bool b => trivial
  | int i t => trivial
  | str s t => trivial
  | bytes b t => trivial
  | _ => exact False.elim x
theorem relV_toV {A : List Addr} {u : Value} (x : OkU A u) : RelV (toV u) u := by
  cases u with
  | ref a => rfl
  | none => rfl
  | bool b => rfl
  | int i t => exact ⟨t, rfl⟩
  | str s t => exact ⟨t, rfl⟩
  | bytes b t => exact ⟨t, rfl⟩
  | _ => exact False.elim x
theorem vals_toV {A : List Addr} : ∀ {vs : List Value}, (∀ u ∈ vs, OkU A u) → Vals (vs.map toV) vs
  | [], _ => .nil
  | u :: r, h => .cons (relV_toV (h u (List.mem_cons_self ..))) (vals_toV fun x hx => h x (List.mem_cons_of_mem _ hx))
/-- an object of the arguments -/
def ArgOb (h : Heap) (A : List Addr) (a : Addr) : Prop := ∃ vs : List Value, vs.length ≤ sizeLine ∧ (∀ u ∈ vs, OkU A u) ∧
  (h.get? a = some { cls := .type "list", data := .seq vs.toArray } ∨ h.get? a = some { cls := .type "tuple", data := .seq vs.toArray })
theorem ArgOb.mono {h : Heap} {A B : List Addr} {a : Addr} (k : ∀ a ∈ A, a ∈ B) (x : ArgOb h A a) : ArgOb h B a := by
  obtain ⟨vs, h1, h2, h3⟩ := x
  exact ⟨vs, h1, fun u hu => (h2 u hu).mono k, h3⟩
theorem wellAll_len {P : Params} {h : Heap} : ∀ {vs : List Value} {ds : List WData}, WellAll P h vs ds → vs.length = ds.length
  | _, _, .nil => rfl
  | _, _, .cons _ b => by
    show _ + 1 = _ + 1
    rw [wellAll_len b]
theorem well_list {P : Params} {h : Heap} {v : Value} {ds : List WData} (x : Well P h v (.list ds)) : ∃ (a : Addr) (vs : List Value), v = .ref a ∧ h.get? a = some { cls := .type "list", data := .seq vs.toArray } ∧ WellAll P h vs ds := by
  cases x with
  | list ho hall => exact ⟨_, _, rfl, ho, hall⟩
theorem well_tuple {P : Params} {h : Heap} {v : Value} {ds : List WData} (x : Well P h v (.tuple ds)) : ∃ (a : Addr) (vs : List Value), v = .ref a ∧ h.get? a = some { cls := .type "tuple", data := .seq vs.toArray } ∧ WellAll P h vs ds := by
  cases x with
  | tuple ho hall => exact ⟨_, _, rfl, ho, hall⟩
theorem well_cons {P : Params} {h : Heap} {us : List Value} {d : WData} {ds : List WData} (x : WellAll P h us (d :: ds)) : ∃ (v : Value) (vs : List Value), us = v :: vs ∧ Well P h v d ∧ WellAll P h vs ds := by
  cases x with
  | cons a b => exact ⟨_, _, rfl, a, b⟩
theorem line_of {n : Nat} (h : n ≤ 1048576) : n ≤ sizeLine := Nat.le_trans h (by decide)
section
variable {P : Params} {h : Heap}
mutual
theorem area_one : ∀ (d : WData) (v : Value), Well P h v d → plW d = true → d.weight ≤ 1048576 → ∃ A : List Addr, OkU A v ∧ ∀ a ∈ A, ArgOb h A a
  | .none, _, x, _, _ => by
    cases x
    exact ⟨[], trivial, fun a m => absurd m (by simp)⟩
  | .bool b, _, x, _, _ => by
    cases x
    exact ⟨[], trivial, fun a m => absurd m (by simp)⟩
  | .int i, _, x, _, _ => by
    cases x
    exact ⟨[], trivial, fun a m => absurd m (by simp)⟩
  | .str s, _, x, _, _ => by
    cases x
    exact ⟨[], trivial, fun a m => absurd m (by simp)⟩
  | .bytes b, _, x, _, _ => by
    cases x
    exact ⟨[], trivial, fun a m => absurd m (by simp)⟩
  | .list ds, _, x, p, z => by
    obtain ⟨a, vs, rfl, ho, hall⟩ := well_list x
    have z2 : WData.weightAll ds ≤ 1048576 := z
    obtain ⟨A, h1, h2⟩ := area_all ds _ hall p fun d hd => Nat.le_trans (weight_mem hd) z2
    have k : ∀ b ∈ A, b ∈ a :: A := fun b hb => List.mem_cons_of_mem _ hb
    refine ⟨a :: A, List.mem_cons_self .., fun b hb => ?_⟩
    rcases List.mem_cons.mp hb with e | m
    · rw [e]
      exact ⟨vs, line_of (by rw [wellAll_len hall]; exact Nat.le_trans (PySem.W.length_le_weightAllW ds) z2), fun u hu => (h1 u hu).mono k, .inl ho⟩
    · exact (h2 b m).mono k
  | .tuple ds, _, x, p, z => by
    obtain ⟨a, vs, rfl, ho, hall⟩ := well_tuple x
    have z2 : WData.weightAll ds ≤ 1048576 := z
    obtain ⟨A, h1, h2⟩ := area_all ds _ hall p fun d hd => Nat.le_trans (weight_mem hd) z2
    have k : ∀ b ∈ A, b ∈ a :: A := fun b hb => List.mem_cons_of_mem _ hb
    refine ⟨a :: A, List.mem_cons_self .., fun b hb => ?_⟩
    rcases List.mem_cons.mp hb with e | m
    · rw [e]
      exact ⟨vs, line_of (by rw [wellAll_len hall]; exact Nat.le_trans (PySem.W.length_le_weightAllW ds) z2), fun u hu => (h1 u hu).mono k, .inr ho⟩
    · exact (h2 b m).mono k
  | .float _, _, _, p, _ => Bool.noConfusion (show false = true from p)
  | .dict _, _, _, p, _ => Bool.noConfusion (show false = true from p)
  | .bytearray _, _, _, p, _ => Bool.noConfusion (show false = true from p)
  | .set _, _, _, p, _ => Bool.noConfusion (show false = true from p)
  | .frozenset _, _, _, p, _ => Bool.noConfusion (show false = true from p)
  | .obj _ _, _, _, p, _ => Bool.noConfusion (show false = true from p)
theorem area_all : ∀ (ds : List WData) (vs : List Value), WellAll P h vs ds → plWs ds = true → (∀ d ∈ ds, d.weight ≤ 1048576) → ∃ A : List Addr, (∀ u ∈ vs, OkU A u) ∧ ∀ a ∈ A, ArgOb h A a
  | [], _, x, _, _ => by
    cases x
    exact ⟨[], fun u m => absurd m (by simp), fun a m => absurd m (by simp)⟩
  | d :: ds, _, x, p, z => by
    obtain ⟨v, vs, rfl, x1, x2⟩ := well_cons x
    have q : plW d = true ∧ plWs ds = true := Bool.and_eq_true_iff.mp p
    obtain ⟨A, a1, a2⟩ := area_one d v x1 q.1 (z d (List.mem_cons_self ..))
    obtain ⟨B, b1, b2⟩ := area_all ds vs x2 q.2 fun e he => z e (List.mem_cons_of_mem _ he)
    have kA : ∀ b ∈ A, b ∈ A ++ B := fun b hb => List.mem_append.mpr (.inl hb)
    have kB : ∀ b ∈ B, b ∈ A ++ B := fun b hb => List.mem_append.mpr (.inr hb)
    refine ⟨A ++ B, fun u hu => ?_, fun b hb => ?_⟩
    · rcases List.mem_cons.mp hu with e | m
      · rw [e]
        exact a1.mono kA
      · exact (b1 u m).mono kB
    · rcases List.mem_append.mp hb with m | m
      · exact (a2 b m).mono kA
      · exact (b2 b m).mono kB
end
end
/-- what is tracked of an argument's object -/
def hoOf (o : Obj) : Option HO := match o.data with
  | .seq vs _ => if (o.cls == Value.type "list") = true then some (.frz o (.lst (vs.toList.map toV))) else some (.frz o (.tup (vs.toList.map toV)))
  | _ => none
def argH (K : PySem.W.Frag) (h : Heap) (A : List Addr) : Hp := fun b => if b ∈ A then (if (K.lookup b).isNone = true then (h.get? b).bind hoOf else none) else none
/-- nothing is tracked but what is known to the object -/
def OnlyF (H : Hp) : Prop := ∀ b, H b = none ∨ ∃ o u, H b = some (.frz o u)
theorem hoOf_lst (vs : List Value) : hoOf { cls := .type "list", data := .seq vs.toArray } = some (.frz { cls := .type "list", data := .seq vs.toArray } (.lst (vs.map toV))) := by
  show (if (Value.type "list" == Value.type "list") = true then some (HO.frz { cls := .type "list", data := .seq vs.toArray } (.lst (vs.toArray.toList.map toV))) else some (HO.frz { cls := .type "list", data := .seq vs.toArray } (.tup (vs.toArray.toList.map toV)))) = _
  rw [if_pos (beq_self_eq_true _)]
theorem hoOf_tup (vs : List Value) : hoOf { cls := .type "tuple", data := .seq vs.toArray } = some (.frz { cls := .type "tuple", data := .seq vs.toArray } (.tup (vs.map toV))) := by
  show (if (Value.type "tuple" == Value.type "list") = true then some (HO.frz { cls := .type "tuple", data := .seq vs.toArray } (.lst (vs.toArray.toList.map toV))) else some (HO.frz { cls := .type "tuple", data := .seq vs.toArray } (.tup (vs.toArray.toList.map toV)))) = _
  rw [if_neg (by decide)]
section
variable {P : Program} {w : World} {K : PySem.W.Frag} {h : Heap} {A : List Addr}
theorem argH_at {b : Addr} {o : Obj} (hb : b ∈ A) (hk : K.lookup b = none) (e : h.get? b = some o) : argH K h A b = hoOf o := by
  unfold argH
  rw [if_pos hb, hk, if_pos (show (none : Option Obj).isNone = true from rfl), e] <;> rfl
theorem of_argH {b : Addr} {u : HO} (q : argH K h A b = some u) : b ∈ A ∧ K.lookup b = none := by
  unfold argH at q
  by_cases hb : b ∈ A
  · rw [if_pos hb] at q
    cases hk : K.lookup b with
    | none => exact ⟨hb, rfl⟩
    | some o =>
      rw [hk, if_neg (by simp)] at q
      cases q
  · rw [if_neg hb] at q
    cases q
/-- what stands tracked -/
theorem argH_is (ar : ∀ a ∈ A, ArgOb h A a) {b : Addr} {u : HO} (q : argH K h A b = some u) : K.lookup b = none ∧ ∃ vs : List Value, vs.length ≤ sizeLine ∧ (∀ u ∈ vs, OkU A u) ∧
    ((h.get? b = some { cls := .type "list", data := .seq vs.toArray } ∧ u = .frz { cls := .type "list", data := .seq vs.toArray } (.lst (vs.map toV))) ∨
     (h.get? b = some { cls := .type "tuple", data := .seq vs.toArray } ∧ u = .frz { cls := .type "tuple", data := .seq vs.toArray } (.tup (vs.map toV)))) := by
  obtain ⟨hb, hk⟩ := of_argH q
  obtain ⟨vs, h1, h2, h3⟩ := ar b hb
  refine ⟨hk, vs, h1, h2, ?_⟩
  rcases h3 with e | e
  · rw [argH_at hb hk e, hoOf_lst] at q
    exact .inl ⟨e, (Option.some.inj q).symm⟩
  · rw [argH_at hb hk e, hoOf_tup] at q
    exact .inr ⟨e, (Option.some.inj q).symm⟩
theorem argH_only (ar : ∀ a ∈ A, ArgOb h A a) : OnlyF (argH K h A) := fun b => by
  cases q : argH K h A b with
  | none => exact .inl rfl
  | some u =>
    obtain ⟨_, vs, _, _, ⟨_, e⟩ | ⟨_, e⟩⟩ := argH_is ar q
    · exact .inr ⟨_, _, by rw [e]⟩
    · exact .inr ⟨_, _, by rw [e]⟩
theorem argH_ok (ar : ∀ a ∈ A, ArgOb h A a) : HOk P w (argH K h A) h := fun b u q => by
  obtain ⟨_, vs, h1, h2, ⟨e, rfl⟩ | ⟨e, rfl⟩⟩ := argH_is ar q
  · exact ⟨e, by rw [List.length_map]; exact h1, vs, _, vals_toV h2, e⟩
  · exact ⟨e, by rw [List.length_map]; exact h1, vs, vals_toV h2, _, e, rfl, _, rfl⟩
theorem seq_inj {c c' : Value} {vs us : List Value} (e : (some { cls := c, data := .seq vs.toArray } : Option Obj) = some { cls := c', data := .seq us.toArray }) : c = c' ∧ vs = us := by
  have e1 := Option.some.inj e
  have e2 : c = c' := congrArg Obj.cls e1
  have e3 : Data.seq vs.toArray = Data.seq us.toArray := congrArg Obj.data e1
  injection e3 with e4
  refine ⟨e2, ?_⟩
  have e5 := congrArg Array.toList e4
  simpa using e5
/-- a list argument -/
theorem argL (KX : K.In h) (ar : ∀ a ∈ A, ArgOb h A a) {a : Addr} {vs : List Value} (ha : a ∈ A) (e : h.get? a = some { cls := .type "list", data := .seq vs.toArray }) : (∀ u ∈ vs, OkU A u) ∧ SqL K (argH K h A) a (vs.map toV) := by
  obtain ⟨us, h1, h2, h3⟩ := ar a ha
  have hu : us = vs := by
    rcases h3 with q | q
    · rw [e] at q
      exact (seq_inj q).2.symm
    · rw [e] at q
      exact absurd (Value.type.inj (seq_inj q).1) (by decide)
  subst hu
  refine ⟨h2, ?_⟩
  cases hk : K.lookup a with
  | none => exact .inl (.inr ⟨_, by rw [argH_at ha hk e, hoOf_lst]⟩)
  | some o =>
    have e2 := KX a o hk
    rw [e] at e2
    obtain rfl := Option.some.inj e2
    exact .inr ⟨_, us.toArray, _, hk, rfl, rfl, rfl, by rw [List.size_toArray]; exact h1, by simpa using vals_toV h2⟩
theorem argT (KX : K.In h) (ar : ∀ a ∈ A, ArgOb h A a) {a : Addr} {vs : List Value} (ha : a ∈ A) (e : h.get? a = some { cls := .type "tuple", data := .seq vs.toArray }) : (∀ u ∈ vs, OkU A u) ∧ SqT K (argH K h A) a (vs.map toV) := by
  obtain ⟨us, h1, h2, h3⟩ := ar a ha
  have hu : us = vs := by
    rcases h3 with q | q
    · rw [e] at q
      exact absurd (Value.type.inj (seq_inj q).1) (by decide)
    · rw [e] at q
      exact (seq_inj q).2.symm
  subst hu
  refine ⟨h2, ?_⟩
  cases hk : K.lookup a with
  | none => exact .inl (.inr ⟨_, by rw [argH_at ha hk e, hoOf_tup]⟩)
  | some o =>
    have e2 := KX a o hk
    rw [e] at e2
    obtain rfl := Option.some.inj e2
    exact .inr ⟨_, us.toArray, _, hk, rfl, rfl, by rw [List.size_toArray]; exact h1, by simpa using vals_toV h2⟩
mutual
theorem dw_one {Pm : Params} (KX : K.In h) (ar : ∀ a ∈ A, ArgOb h A a) : ∀ (d : WData) (v : Value), Well Pm h v d → plW d = true → OkU A v → Dw K (argH K h A) (toV v) d
  | .none, _, x, _, _ => by
    cases x
    exact .non
  | .bool b, _, x, _, _ => by
    cases x
    exact .bl b
  | .int i, _, x, _, _ => by
    cases x
    exact .int i
  | .str s, _, x, _, _ => by
    cases x
    exact .str s
  | .bytes b, _, x, _, _ => by
    cases x
    have z := Dw.byt (K := K) (H := argH K h A) b.toArray
    exact z
  | .list ds, _, x, p, hu => by
    obtain ⟨a, vs, rfl, ho, hall⟩ := well_list x
    obtain ⟨h2, hs⟩ := argL KX ar hu ho
    exact .lst hs (dw_all KX ar ds _ hall p h2)
  | .tuple ds, _, x, p, hu => by
    obtain ⟨a, vs, rfl, ho, hall⟩ := well_tuple x
    obtain ⟨h2, hs⟩ := argT KX ar hu ho
    exact .tup hs (dw_all KX ar ds _ hall p h2)
  | .float _, _, _, p, _ => Bool.noConfusion (show false = true from p)
  | .dict _, _, _, p, _ => Bool.noConfusion (show false = true from p)
  | .bytearray _, _, _, p, _ => Bool.noConfusion (show false = true from p)
  | .set _, _, _, p, _ => Bool.noConfusion (show false = true from p)
  | .frozenset _, _, _, p, _ => Bool.noConfusion (show false = true from p)
  | .obj _ _, _, _, p, _ => Bool.noConfusion (show false = true from p)
theorem dw_all {Pm : Params} (KX : K.In h) (ar : ∀ a ∈ A, ArgOb h A a) : ∀ (ds : List WData) (vs : List Value), WellAll Pm h vs ds → plWs ds = true → (∀ u ∈ vs, OkU A u) → DwAll K (argH K h A) (vs.map toV) ds
  | [], _, x, _, _ => by
    cases x
    exact .nil
  | d :: ds, _, x, p, hu => by
    obtain ⟨v, vs, rfl, x1, x2⟩ := well_cons x
    have q : plW d = true ∧ plWs ds = true := Bool.and_eq_true_iff.mp p
    exact .cons (dw_one KX ar d v x1 q.1 (hu _ (List.mem_cons_self ..))) (dw_all KX ar ds vs x2 q.2 fun u m => hu u (List.mem_cons_of_mem _ m))
end
end
/-! ### the call -/
theorem spec_call {P : Program} {w : World} {K : PySem.W.Frag} {mg mb : Str → Option Value} {CX : CXT} {k : Nat} {fa : Addr} {fd : FuncData} {ps : List Str} {sp : Sp} {s₁ : Shared} {vals : List Value} {ds : List WData} {R : PySem.W.WRecords} {cl : Str → Option Addr} {d0 : WData}
    (KX : K.In s₁.heap) (hns : s₁.heap.Ns mainGlobals mg) (hb : s₁.heap.Ns builtinsNs mb) (hbb : ∀ x : Str, x ≠ "__name__" → mb x = bootBuiltins x) (hlim : s₁.heap.NoLimit) (hg : s₁.gens = #[])
    (hwl : WellAll w.params s₁.heap vals ds) (hpl : plWs ds = true) (hwt : ∀ d ∈ ds, d.weight ≤ 1048576) (hr : Room k callerA)
    (F : ∀ base : Heap, K.In base → base.Ns mainGlobals mg → FnOk P w K mg base CX k fa fd ps sp) (hbind : ∀ (s : Shared) (us : List Value), us.length = ps.length → BindsTo s fd ⟨us, []⟩ (ps.zip us)) (hlen : ds.length = ps.length)
    (hsp : ∀ (H : Hp) (xs : List V), OnlyF H → DwAll K H xs ds → sp xs H (fun v H' => Dw K H' v d0) fun _ _ _ => False)
    (hCX : ∀ H e s', CX [] H s₁ (fun _ _ _ => False) e s' → False) :
    codeAny (model P w) callerA (.call (.ref fa) ⟨vals, []⟩) (fun r s' => ∃ u as, r = .ok (.ret u) ∧ ReadsW R cl s'.heap u d0 as ∧ OldK s₁.heap s'.heap ∧ s'.os = s₁.os ∧ AllBare s'.gens) s₁ := by
  obtain ⟨A, ho, ar⟩ := area_all ds vals hwl hpl hwt
  have hO : OnlyF (argH K s₁.heap A) := argH_only ar
  have hok : HOk P w (argH K s₁.heap A) s₁.heap := argH_ok ar
  have hS := dw_all KX ar ds vals hwl hpl ho
  have hV := vals_toV ho
  have hK : ∀ b u, argH K s₁.heap A b = some u → K.lookup b = none := fun b u q => (argH_is ar q).1
  have noA : ∀ {b : Addr} {o : Obj} {es : Array DictEntry} {ep : Nat}, s₁.heap.get? b = some o → o.data = .dict es ep → argH K s₁.heap A b = none := fun {b o es ep} e d => by
    cases q : argH K s₁.heap A b with
    | none => rfl
    | some u =>
      obtain ⟨_, vs, _, _, ⟨e2, _⟩ | ⟨e2, _⟩⟩ := argH_is ar q
      · rw [e2] at e
        cases e
        have d' : Data.seq vs.toArray _ = Data.dict es ep := d
        cases d'
      · rw [e2] at e
        cases e
        have d' : Data.seq vs.toArray _ = Data.dict es ep := d
        cases d'
  generalize argH K s₁.heap A = H at hO hok hS hK noA
  have base_of : ∀ {b : Addr} {o : Obj}, s₁.heap.get? b = some o → H b = none → (hidT s₁.heap H).get? b = some o := fun e n => hidT_get e n
  have nsK : ∀ {b : Addr} {m : Str → Option Value}, s₁.heap.Ns b m → (hidT s₁.heap H).Ns b m := fun {b m} ⟨o, es, ep, e, d, r⟩ => ⟨o, es, ep, base_of e (noA e d), d, r⟩
  have nK : ∀ b o, K.lookup b = some o → H b = none := fun b o e => by
    cases q : H b with
    | none => rfl
    | some u =>
      rw [hK b u q] at e
      cases e
  have hKb : K.In (hidT s₁.heap H) := fun b o e => base_of (KX b o e) (nK b o e)
  have hM : Mod K mg (hidT s₁.heap H) := ⟨hKb, nsK hns, ⟨mb, nsK hb, hbb⟩, let ⟨mc, h1, h2⟩ := hlim; ⟨mc, nsK h1, h2⟩⟩
  have e0 : Env0 P w K mg (hidT s₁.heap H) callerA [] s₁ H := ⟨rfl, hM, fun b o e => of_hidT e, Nat.le_of_eq (hidT_size _ _), trivial, fun b hb => absurd (show b ∈ ([] : List Addr) from hb) (by simp), hok, .of_eq hg⟩
  have hl : vals.length = ps.length := by rw [wellAll_len hwl]; exact hlen
  refine codeAny_mono ((F _ hKb (nsK hns)).run callerA [] s₁ H ⟨vals, []⟩ vals (vals.map toV) _ _ hr e0 (hbind s₁ vals hl) hV (hsp H _ hO hS)) fun r s' x => ?_
  cases r with
  | error e => exact (hCX H e s' x).elim
  | ok fl =>
    cases fl with
    | next => exact False.elim x
    | brk => exact False.elim x
    | cont => exact False.elim x
    | ret u =>
      obtain ⟨v, H', os, bare, un, hok', r', q⟩ := x
      have kept : ∀ b o, s₁.heap.get? b = some o → s'.heap.get? b = some o := fun b o e => by
        cases q2 : H b with
        | none => exact un.keep b o e q2 (by intro z; exact absurd (show b ∈ ([] : List Addr) from z) (by simp)) (by simp)
        | some u2 =>
          rcases hO b with z | ⟨ob, u3, z⟩
          · rw [q2] at z
            cases z
          · have z2 := un.frzs b ob _ z
            obtain ⟨e1, _⟩ := hok b _ z
            obtain ⟨e2, _⟩ := hok' b _ z2
            rw [e] at e1
            cases e1
            exact e2
      have KX' : K.In s'.heap := fun b o e => kept b o (KX b o e)
      obtain ⟨as, hrd⟩ := Dw.reads (R := R) (cl := cl) hok' KX' d0 v u q r'
      exact ⟨u, as, rfl, hrd, OldK.of_keep kept, os, bare⟩
/-! ### the row -/
theorem layable_weight {ds : List WData} (h : WData.layableAll ds = true) : ∀ d ∈ ds, d.weight ≤ 1048576 := fun d hd =>
  (PySem.W.layableW_iff.mp (List.all_eq_true.mp h d hd)).2.2
theorem encAll_len : ∀ (cs : List Codec) (a : Codec.denoteAll cs), (Codec.encAll cs a).length = cs.length
  | [], _ => rfl
  | c :: cs, a => by
    show (Codec.encAll cs a.2).length + 1 = cs.length + 1
    rw [encAll_len cs a.2]
/-- the goal that k_headS leaves (case hc), from the promise of the row's def: whatever the arguments that the codecs let and the row asks for, the def gives what stands for enc (f ..) -/
theorem walk_spec {r : OpenSpec} {k : Nat} {q : Program} {loose : List Str} {XP : (Str → Option Value) → Heap → Prop} {YP : World → Heap → Prop} {d : DefRec} {K : Params → PySem.W.Frag} {CX : World → CXT} {ps : List Str} {sp : World → Sp}
    (hwell : r.wellSaid = true) (hdf : d.params.defaults = []) (hlen : r.args.length = ps.length) (hr : Room k callerA)
    (hY : ∀ (w : World) (h : Heap), YP w h → (K w.params).In h)
    (F : ∀ (w : World) (mg : Str → Option Value) (fa : Addr) (h : Heap), YP w h → (K w.params).In h → h.Ns mainGlobals mg → mg d.name = some (.ref fa) →
      ∃ fd : FuncData, (∀ (s : Shared) (us : List Value), us.length = ps.length → BindsTo s fd ⟨us, []⟩ (ps.zip us)) ∧
        ∀ base : Heap, (K w.params).In base → base.Ns mainGlobals mg → FnOk r.prog w (K w.params) mg base (CX w) k fa fd ps (sp w))
    (hsp : ∀ (w : World) (H : Hp) (xs : List V) (a : Codec.denoteAll r.args), OnlyF H → Codec.withinAll r.args a = true → Codec.app r.args r.asked a = true → DwAll (K w.params) H xs (Codec.encAll r.args a) →
      sp w xs H (fun v H' => Dw (K w.params) H' v (r.ret.enc (Codec.app r.args r.f a))) fun _ _ _ => False)
    (hCX : ∀ (w : World) (H : Hp) (s : Shared) (e : Value) (s' : Shared), CX w [] H s (fun _ _ _ => False) e s' → False) :
    PySem.W.WalkOS q loose XP YP r d [] (fun f vs => PySem.call f vs) := by
  intro w s_0 s₁ mg mb G Y fa o pm cd doc dV kV ho hd hcd hD hmg hg args vals as hpre hlay hrd hwl hlo
  obtain ⟨a, e1, e2⟩ := PySem.W.os_pre_some hpre
  obtain ⟨e3, hwi⟩ := Codec.encAll_of_decAll r.args args a e1
  subst e3
  have KX := hY w _ Y
  obtain ⟨fd, hb, hF⟩ := F w mg fa _ Y KX G.T.g hmg
  refine PySem.W.enter_call (codeAny_mono (spec_call (R := []) (cl := classAt s_0.heap) (d0 := r.ret.enc (Codec.app r.args r.f a)) KX G.T.g G.T.b G.T.builtins G.T.nolimit hg hwl (pl_encAll _ _) (layable_weight hlay) hr hF hb (by rw [encAll_len]; exact hlen)
    (fun H xs hO hS => hsp w H xs a hO hwi e2 hS) fun H e s' => hCX w H s₁ e s') fun r' s' hq => ?_)
  obtain ⟨u, as', rfl, h1, h2, h3, h4⟩ := hq
  exact ⟨.inl ⟨u, _, as', rfl, fun _ => rfl, h1, (OpenSpec.post_iff hwell hwi _ _).mpr rfl, fun z => Bool.noConfusion (show false = true from z)⟩, h2, h3, h4⟩
/-- the same where the promise hangs on the written part alone -/
theorem walk_specK {r : OpenSpec} {k : Nat} {q : Program} {loose : List Str} {XP : (Str → Option Value) → Heap → Prop} {YP : World → Heap → Prop} {d : DefRec} {K : Params → PySem.W.Frag} {CX : CXT} {ps : List Str} {sp : PySem.W.Frag → Sp}
    (hwell : r.wellSaid = true) (hdf : d.params.defaults = []) (hlen : r.args.length = ps.length) (hr : Room k callerA)
    (hY : ∀ (w : World) (h : Heap), YP w h → (K w.params).In h)
    (F : ∀ (w : World) (mg : Str → Option Value) (fa : Addr) (h : Heap), YP w h → (K w.params).In h → h.Ns mainGlobals mg → mg d.name = some (.ref fa) →
      ∃ fd : FuncData, (∀ (s : Shared) (us : List Value), us.length = ps.length → BindsTo s fd ⟨us, []⟩ (ps.zip us)) ∧
        ∀ base : Heap, (K w.params).In base → base.Ns mainGlobals mg → FnOk r.prog w (K w.params) mg base CX k fa fd ps (sp (K w.params)))
    (hsp : ∀ (K : PySem.W.Frag) (H : Hp) (xs : List V) (a : Codec.denoteAll r.args), OnlyF H → Codec.withinAll r.args a = true → Codec.app r.args r.asked a = true → DwAll K H xs (Codec.encAll r.args a) →
      sp K xs H (fun v H' => Dw K H' v (r.ret.enc (Codec.app r.args r.f a))) fun _ _ _ => False)
    (hCX : ∀ (H : Hp) (s : Shared) (e : Value) (s' : Shared), CX [] H s (fun _ _ _ => False) e s' → False) :
    PySem.W.WalkOS q loose XP YP r d [] (fun f vs => PySem.call f vs) :=
  walk_spec (K := K) (CX := fun _ => CX) (sp := fun w => sp (K w.params)) hwell hdf hlen hr hY F (fun w H xs a h1 h2 h3 h4 => hsp (K w.params) H xs a h1 h2 h3 h4) fun _ H s e s' => hCX H s e s'
end L2
-- rests on (row put in by the clerk, for the bench that shows a file only what it spells): KE.SpHead KE.OsShapes
end
namespace SC
open Vagraa (Frac frac zero one isZero weight bits)
open VagraLine (Line Code)
open Vagral (Made Mode lineAt constAt isConst negOf subOf)
/-! ### numbers -/
theorem gcd_turn (a b : Nat) : Nat.gcd b (a % b) = Nat.gcd a b := by
  rw [Nat.gcd_comm b (a % b), ← Nat.gcd_rec b a, Nat.gcd_comm]
/-- the fraction t over b, b of any sign -/
def low (t b : Int) : Frac := if b < 0 then frac (-t) b.natAbs else frac t b.natAbs
def comm (t b : Int) : Int := if b < 0 then -(Nat.gcd t.natAbs b.natAbs : Int) else (Nat.gcd t.natAbs b.natAbs : Int)
theorem gcd_pos (t : Int) {b : Int} (hb : b ≠ 0) : 0 < Nat.gcd t.natAbs b.natAbs :=
  Nat.gcd_pos_of_pos_right _ (by omega)
theorem comm_ne (t : Int) {b : Int} (hb : b ≠ 0) : comm t b ≠ 0 := by
  have := gcd_pos t hb
  unfold comm
  split <;> omega
theorem frac_pos {n : Int} {d : Nat} (h : d ≠ 0) : frac n d = ⟨n / (Nat.gcd n.natAbs d : Nat), d / Nat.gcd n.natAbs d⟩ := by
  unfold frac
  rw [if_neg h]
theorem low_num (t : Int) {b : Int} (hb : b ≠ 0) : t.fdiv (comm t b) = (low t b).num := by
  have hg := gcd_pos t hb
  have hd : (Nat.gcd t.natAbs b.natAbs : Int) ∣ t := Int.natAbs_dvd_natAbs.mp (by simpa using Nat.gcd_dvd_left t.natAbs b.natAbs)
  unfold low comm
  by_cases h : b < 0
  · rw [if_pos h, if_pos h, frac_pos (by omega)]
    rw [Int.natAbs_neg]
    obtain ⟨k, hk⟩ := hd
    generalize hG : Nat.gcd t.natAbs b.natAbs = g at *
    show t.fdiv (-(g : Int)) = -t / (g : Int)
    rw [hk]
    have h1 : (g : Int) ≠ 0 := by omega
    rw [Int.fdiv_eq_ediv_of_dvd ⟨-k, by rw [Int.neg_mul_neg]⟩]
    rw [Int.ediv_neg, Int.mul_ediv_cancel_left _ h1, ← Int.mul_neg, Int.mul_ediv_cancel_left _ h1]
  · rw [if_neg h, if_neg h, frac_pos (by omega)]
    exact Int.fdiv_eq_ediv_of_nonneg _ (by omega)
theorem low_den (t : Int) {b : Int} (hb : b ≠ 0) : b.fdiv (comm t b) = ((low t b).den : Int) := by
  have hg := gcd_pos t hb
  have hd : Nat.gcd t.natAbs b.natAbs ∣ b.natAbs := Nat.gcd_dvd_right t.natAbs b.natAbs
  unfold low comm
  by_cases h : b < 0
  · rw [if_pos h, if_pos h, frac_pos (by omega)]
    rw [Int.natAbs_neg]
    obtain ⟨k, hk⟩ := hd
    generalize hG : Nat.gcd t.natAbs b.natAbs = g at *
    show b.fdiv (-(g : Int)) = ((b.natAbs / g : Nat) : Int)
    have e : b = -((g * k : Nat) : Int) := by omega
    have h1 : (g : Int) ≠ 0 := by omega
    rw [hk, Nat.mul_div_cancel_left _ hg, e, Int.natCast_mul]
    rw [Int.fdiv_eq_ediv_of_dvd ⟨k, by rw [Int.neg_mul]⟩]
    rw [Int.ediv_neg, Int.neg_ediv_of_dvd ⟨k, rfl⟩, Int.mul_ediv_cancel_left _ h1, Int.neg_neg]
  · rw [if_neg h, if_neg h, frac_pos (by omega)]
    rw [Int.fdiv_eq_ediv_of_nonneg _ (by omega)]
    show b / _ = ((b.natAbs / _ : Nat) : Int)
    rw [Int.natCast_ediv]
    congr 1
    omega
theorem low_nat (t : Int) (d : Nat) : low t (d : Int) = frac t d := by
  unfold low
  rw [if_neg (by omega)]
  rfl
/-- a fraction that may stand: its denominator 1 or more, not too heavy -/
def Fit (a : Frac) : Prop := 1 ≤ a.den ∧ weight a ≤ 200
theorem bits_lt {n k : Nat} (h : bits n ≤ k) : n < 2 ^ k := by
  unfold bits at h
  by_cases h0 : n = 0
  · subst h0; exact Nat.two_pow_pos k
  · rw [if_neg h0] at h
    exact Nat.lt_of_lt_of_le Nat.lt_log2_self (Nat.pow_le_pow_right (by decide) h)
theorem bits_le {n k : Nat} (h : n < 2 ^ k) : bits n ≤ k := by
  unfold bits
  by_cases h0 : n = 0
  · rw [if_pos h0]; exact Nat.zero_le _
  · rw [if_neg h0]
    exact (Nat.log2_lt h0).mpr h
theorem Fit.num {a : Frac} (h : Fit a) : a.num.natAbs < 2 ^ 200 := bits_lt (by have := h.2; unfold weight at this; omega)
theorem Fit.den {a : Frac} (h : Fit a) : a.den < 2 ^ 200 := bits_lt (by have := h.2; unfold weight at this; omega)
theorem frac_den {n : Int} {d : Nat} (h : d ≠ 0) : 1 ≤ (frac n d).den := by
  rw [frac_pos h]
  exact Nat.div_pos (Nat.le_of_dvd (by omega) (Nat.gcd_dvd_right _ _)) (Nat.gcd_pos_of_pos_right _ (by omega))
theorem frac_den_le {n : Int} {d : Nat} (h : d ≠ 0) : (frac n d).den ≤ d := by
  rw [frac_pos h]
  exact Nat.div_le_self _ _
theorem frac_num_le {n : Int} {d : Nat} (h : d ≠ 0) : (frac n d).num.natAbs ≤ n.natAbs := by
  rw [frac_pos h]
  show (n / _).natAbs ≤ n.natAbs
  have hd : (Nat.gcd n.natAbs d : Int) ∣ n := Int.natAbs_dvd_natAbs.mp (by simpa using Nat.gcd_dvd_left n.natAbs d)
  rw [Int.natAbs_ediv_of_dvd hd]
  exact Nat.div_le_self _ _
/-- a fraction read: numbers within 10^18 -/
theorem frac_fit {n d : Int} (hn : n.natAbs ≤ 10 ^ 18) (hd : 1 ≤ d) (hd2 : d.natAbs ≤ 10 ^ 18) : Fit (frac n d.toNat) := by
  have h0 : d.toNat ≠ 0 := by omega
  refine ⟨frac_den h0, ?_⟩
  have h1 := frac_num_le (n := n) h0
  have h2 := frac_den_le (n := n) h0
  have b1 : bits (frac n d.toNat).num.natAbs ≤ 60 := bits_le (by omega)
  have b2 : bits (frac n d.toNat).den ≤ 60 := bits_le (by omega)
  unfold weight
  omega
theorem zero_fit : Fit zero := ⟨by decide, by decide⟩
theorem one_fit : Fit one := ⟨by decide, by decide⟩
theorem neg_weight (a : Frac) : weight (Vagraa.neg a) = weight a := by
  unfold weight Vagraa.neg
  show bits (-a.num).natAbs + bits a.den = _
  rw [Int.natAbs_neg]
theorem neg_fit {a : Frac} (h : Fit a) : Fit (Vagraa.neg a) := ⟨h.1, by rw [neg_weight]; exact h.2⟩
theorem add_den {a b : Frac} (ha : 1 ≤ a.den) (hb : 1 ≤ b.den) : 1 ≤ (Vagraa.add a b).den := frac_den (Nat.ne_of_gt (Nat.mul_pos ha hb))
theorem mul_den {a b : Frac} (ha : 1 ≤ a.den) (hb : 1 ≤ b.den) : 1 ≤ (Vagraa.mul a b).den := frac_den (Nat.ne_of_gt (Nat.mul_pos ha hb))
theorem inv_den {b : Frac} (hb : b.num ≠ 0) : 1 ≤ (Vagraa.inv b).den := by
  unfold Vagraa.inv
  split
  · show 1 ≤ b.num.natAbs; omega
  · show 1 ≤ b.num.natAbs; omega
theorem div_den {a b : Frac} (ha : 1 ≤ a.den) (hb : b.num ≠ 0) : 1 ≤ (Vagraa.div a b).den := mul_den ha (inv_den hb)
theorem add_low (a b : Frac) : low (a.num * b.den + b.num * a.den) ((a.den : Int) * b.den) = Vagraa.add a b := by
  rw [show ((a.den : Int) * b.den) = ((a.den * b.den : Nat) : Int) from (Int.natCast_mul _ _).symm, low_nat]
  rfl
theorem mul_low (a b : Frac) : low (a.num * b.num) ((a.den : Int) * b.den) = Vagraa.mul a b := by
  rw [show ((a.den : Int) * b.den) = ((a.den * b.den : Nat) : Int) from (Int.natCast_mul _ _).symm, low_nat]
  rfl
theorem div_low (a : Frac) {b : Frac} (ha : 1 ≤ a.den) (hb : b.num ≠ 0) : low (a.num * b.den) ((a.den : Int) * b.num) = Vagraa.div a b := by
  unfold low Vagraa.div Vagraa.mul Vagraa.inv
  have e : ((a.den : Int) * b.num).natAbs = a.den * b.num.natAbs := by rw [Int.natAbs_mul, Int.natAbs_natCast]
  by_cases h : b.num < 0
  · rw [if_pos h, if_pos (Int.mul_neg_of_pos_of_neg (by omega) h), e]
    show frac (-(a.num * b.den)) _ = frac (a.num * -(b.den : Int)) _
    rw [Int.mul_neg]
  · rw [if_neg h, if_neg hb, if_neg (by have := Int.mul_nonneg (a := (a.den : Int)) (b := b.num) (by omega) (by omega); omega), e]
theorem big_mul {x y : Int} {j k : Nat} (hx : x.natAbs < 2 ^ j) (hy : y.natAbs < 2 ^ k) : (x * y).natAbs < 2 ^ (j + k) := by
  rw [Int.natAbs_mul, Nat.pow_add]
  exact Nat.mul_lt_mul'' hx hy
end SC
namespace SC
open Vagraa (Frac frac zero one isZero weight bits)
open VagraLine (Line Code)
open Vagral (Made Mode lineAt constAt isConst negOf subOf folded identity simple minus1 turned moved)
variable {ni : Nat}
/-! ### lines -/
theorem told_inj : ∀ {a b : Line}, a.told = b.told → a = b := by
  intro a b h
  cases a <;> cases b <;> simp [Line.told] at h
  · congr 1; omega
  · rename_i x y
    cases x; cases y
    simp only [Line.num.injEq, Frac.mk.injEq] at h ⊢
    omega
  · congr 1 <;> omega
  · congr 1 <;> omega
  · congr 1 <;> omega
  · congr 1 <;> omega
  · congr 1; omega
/-- the lines that a line uses stand below n -/
def Low (n : Nat) (l : Line) : Prop := ∀ u ∈ l.uses, u < n
/-- a line whose constant is fit -/
def FitL (ni : Nat) : Line → Prop
  | .num a => Fit a
  | .input k => k < ni
  | _ => True
/-- every line uses earlier lines alone; constants are fit -/
structure Ord (ni : Nat) (c : Code) : Prop where
  low : ∀ (i : Nat) (l : Line), c[i]? = some l → Low i l
  fit : ∀ (i : Nat) (l : Line), c[i]? = some l → FitL ni l
theorem Ord.nil : Ord ni [] := ⟨fun i l h => by simp at h, fun i l h => by simp at h⟩
theorem get_snoc {c : Code} {k l : Line} {i : Nat} (h : (c ++ [k])[i]? = some l) : c[i]? = some l ∨ (i = c.length ∧ l = k) := by
  by_cases hi : i < c.length
  · rw [List.getElem?_append_left hi] at h; exact .inl h
  · rw [List.getElem?_append_right (by omega)] at h
    have h2 : i - c.length = 0 := by
      have := (List.getElem?_eq_some_iff.mp h).1
      simp at this; omega
    rw [h2] at h
    exact .inr ⟨by omega, (by simpa using h.symm)⟩
theorem Ord.snoc {c : Code} {k : Line} (h : Ord ni c) (hl : Low c.length k) (hf : FitL ni k) : Ord ni (c ++ [k]) := by
  refine ⟨fun i l e => ?_, fun i l e => ?_⟩
  · rcases get_snoc e with e | ⟨rfl, rfl⟩
    · exact h.low i l e
    · exact hl
  · rcases get_snoc e with e | ⟨rfl, rfl⟩
    · exact h.fit i l e
    · exact hf
theorem lineAt_get {c : Code} {i : Nat} {l : Line} (h : c[i]? = some l) : lineAt c i = l := by
  unfold lineAt
  rw [List.getD_eq_getElem?_getD, h]
  rfl
theorem get_lineAt {c : Code} {i : Nat} (h : i < c.length) : c[i]? = some (lineAt c i) := by
  rw [List.getElem?_eq_getElem h, lineAt_get (List.getElem?_eq_getElem h)]
theorem lineAt_snoc {c : Code} {k : Line} {i : Nat} (h : i < c.length) : lineAt (c ++ [k]) i = lineAt c i :=
  lineAt_get (by rw [List.getElem?_append_left h]; exact get_lineAt h)
theorem constAt_some {c : Code} {i : Nat} {a : Frac} (h : constAt c i = some a) : lineAt c i = .num a := by
  unfold constAt at h
  split at h
  · rename_i b e; cases h; exact e
  · cases h
theorem negOf_some {c : Code} {i k : Nat} (h : negOf c i = some k) : lineAt c i = .neg k := by
  unfold negOf at h
  split at h
  · rename_i b e; cases h; exact e
  · cases h
theorem subOf_some {c : Code} {i : Nat} {x : Nat × Nat} (h : subOf c i = some x) : lineAt c i = .sub x.1 x.2 := by
  unfold subOf at h
  split at h
  · rename_i b e q; cases h; exact q
  · cases h
theorem constAt_get {c : Code} {i : Nat} {a : Frac} (h : lineAt c i = .num a) : constAt c i = some a := by unfold constAt; rw [h]
theorem constAt_snoc {c : Code} {k : Line} {i : Nat} (h : i < c.length) : constAt (c ++ [k]) i = constAt c i := by unfold constAt; rw [lineAt_snoc h]
theorem negOf_snoc {c : Code} {k : Line} {i : Nat} (h : i < c.length) : negOf (c ++ [k]) i = negOf c i := by unfold negOf; rw [lineAt_snoc h]
theorem subOf_snoc {c : Code} {k : Line} {i : Nat} (h : i < c.length) : subOf (c ++ [k]) i = subOf c i := by unfold subOf; rw [lineAt_snoc h]
theorem isConst_snoc {c : Code} {k : Line} {i : Nat} {a : Frac} (h : i < c.length) : isConst (c ++ [k]) i a = isConst c i a := by unfold isConst; rw [constAt_snoc h]
theorem isConst_line {c : Code} {i : Nat} {a : Frac} : isConst c i a = decide (lineAt c i = .num a) := by
  unfold isConst
  by_cases h : lineAt c i = .num a
  · rw [constAt_get h, decide_eq_true h]; simp
  · rw [decide_eq_false h]
    refine decide_eq_false fun q => h (constAt_some q)
/-- what the identities leave: no negative of a negative or a difference, no difference with a 0 behind -/
structure Nf (c : Code) : Prop where
  neg : ∀ (i k : Nat), c[i]? = some (.neg k) → negOf c k = none ∧ subOf c k = none
  sub : ∀ (i x y : Nat), c[i]? = some (.sub x y) → isConst c y zero = false ∧ negOf c y = none
theorem Nf.nil : Nf [] := ⟨fun i l h => by simp at h, fun i l y h => by simp at h⟩
/-- one step of what is done with a line -/
def step (m : Mode) (c : Code) : Made → Option Made
  | .old _ => none
  | .line l => match (if m.fold = true then folded c l else none) with
    | some a => some (.line (.num a))
    | none => if m.same = true then identity c l else none
def nn (c : Code) (i : Nat) : Nat := if (negOf c i).isSome = true then 1 else 0
def rank (c : Code) : Line → Nat
  | .input _ => 0
  | .num _ => 0
  | .add i j => nn c i + nn c j + 1
  | .sub i j => if isConst c i zero = true then 6 else nn c i + nn c j + 1
  | .mul _ _ => 5
  | .div _ _ => 5
  | .neg _ => 4
theorem nn_le (c : Code) (i : Nat) : nn c i ≤ 1 := by unfold nn; split <;> omega
theorem nn_none {c : Code} {i : Nat} (h : negOf c i = none) : nn c i = 0 := by unfold nn; rw [h]; rfl
theorem nn_some {c : Code} {i k : Nat} (h : negOf c i = some k) : nn c i = 1 := by unfold nn; rw [h]; rfl
theorem rank_le (c : Code) (l : Line) : rank c l ≤ 6 := by
  cases l <;> simp only [rank] <;> (try split) <;> (try omega)
  · rename_i i j; have := nn_le c i; have := nn_le c j; omega
  · rename_i i j _; have := nn_le c i; have := nn_le c j; omega
/-- where -i stands -i's own line, it is none of a negative -/
theorem Nf.of_neg {c : Code} {i k : Nat} (h : Nf c) (hi : i < c.length) (e : negOf c i = some k) : negOf c k = none ∧ subOf c k = none :=
  h.neg i k (by rw [get_lineAt hi, negOf_some e])
theorem identity_rank {c : Code} {l k : Line} (N : Nf c) (hl : Low c.length l) (h : identity c l = some (.line k)) : rank c k < rank c l := by
  cases l with
  | input k => simp [identity] at h
  | num a => simp [identity] at h
  | add i j =>
    have hi : i < c.length := hl i (by simp [Line.uses])
    have hj : j < c.length := hl j (by simp [Line.uses])
    simp only [identity] at h
    split at h
    · cases h
    · rename_i z1
      split at h
      · cases h
      · rename_i z2
        cases e1 : negOf c j with
        | some q =>
          rw [e1] at h
          cases h
          obtain ⟨n1, _⟩ := N.of_neg hj e1
          simp only [rank]
          rw [if_neg z1, nn_none n1, nn_some e1]
          omega
        | none =>
          rw [e1] at h
          cases e2 : negOf c i with
          | none => rw [e2] at h; cases h
          | some q =>
            rw [e2] at h
            cases h
            obtain ⟨n1, _⟩ := N.of_neg hi e2
            simp only [rank]
            rw [if_neg z2, nn_none n1, nn_some e2, nn_none e1]
            omega
  | sub i j =>
    have hi : i < c.length := hl i (by simp [Line.uses])
    have hj : j < c.length := hl j (by simp [Line.uses])
    simp only [identity] at h
    split at h
    · cases h
    · split at h
      · cases h; simp only [rank]; split <;> omega
      · split at h
        · rename_i z
          cases h
          simp only [rank]
          rw [if_pos z]
          omega
        · rename_i z
          cases e : negOf c j with
          | none => rw [e] at h; cases h
          | some q =>
            rw [e] at h
            cases h
            obtain ⟨n1, _⟩ := N.of_neg hj e
            simp only [rank]
            rw [if_neg z, nn_none n1, nn_some e]
            omega
  | mul i j =>
    simp only [identity] at h
    repeat' (split at h)
    all_goals first | cases h
    all_goals simp only [rank]; omega
  | div i j =>
    simp only [identity] at h
    repeat' (split at h)
    all_goals first | cases h
    all_goals simp only [rank]; omega
  | neg i =>
    have hi : i < c.length := hl i (by simp [Line.uses])
    simp only [identity] at h
    cases e1 : negOf c i with
    | some q => rw [e1] at h; cases h
    | none =>
    rw [e1] at h
    cases e2 : subOf c i with
    | none => rw [e2] at h; cases h
    | some x =>
      rw [e2] at h
      cases h
      have q := N.sub i x.1 x.2 (by rw [get_lineAt hi, subOf_some e2])
      simp only [rank]
      have := nn_le c x.1
      rw [if_neg (by rw [q.1]; exact Bool.false_ne_true), nn_none q.2]
      omega
theorem identity_low {c : Code} {l : Line} {m : Made} (O : Ord ni c) (hl : Low c.length l) (h : identity c l = some m) : match m with | .old i => i < c.length | .line k => Low c.length k ∧ FitL ni k := by
  have un : ∀ {i k : Nat}, i < c.length → negOf c i = some k → k < c.length := fun {i k} hi e =>
    Nat.lt_trans (O.low i _ (by rw [get_lineAt hi, negOf_some e]) k (by simp [Line.uses])) hi
  have us : ∀ {i : Nat} {x : Nat × Nat}, i < c.length → subOf c i = some x → x.1 < c.length ∧ x.2 < c.length := fun {i x} hi e =>
    ⟨Nat.lt_trans (O.low i _ (by rw [get_lineAt hi, subOf_some e]) x.1 (by simp [Line.uses])) hi, Nat.lt_trans (O.low i _ (by rw [get_lineAt hi, subOf_some e]) x.2 (by simp [Line.uses])) hi⟩
  have l0 : Low c.length (.num zero) := fun u hu => by simp [Line.uses] at hu
  have l1 : Low c.length (.num one) := fun u hu => by simp [Line.uses] at hu
  have ln : ∀ {i : Nat}, i < c.length → Low c.length (.neg i) := fun hi u hu => by simp [Line.uses] at hu; subst hu; exact hi
  have ls : ∀ {i j : Nat}, i < c.length → j < c.length → Low c.length (.sub i j) := fun hi hj u hu => by simp [Line.uses] at hu; rcases hu with rfl | rfl; exact hi; exact hj
  have la : ∀ {i j : Nat}, i < c.length → j < c.length → Low c.length (.add i j) := fun hi hj u hu => by simp [Line.uses] at hu; rcases hu with rfl | rfl; exact hi; exact hj
  cases l with
  | input k => simp [identity] at h
  | num a => simp [identity] at h
  | add i j =>
    have hi : i < c.length := hl i (by simp [Line.uses])
    have hj : j < c.length := hl j (by simp [Line.uses])
    simp only [identity] at h
    split at h
    · cases h; exact hj
    · split at h
      · cases h; exact hi
      · cases e1 : negOf c j with
        | some q => rw [e1] at h; cases h; exact ⟨ls hi (un hj e1), trivial⟩
        | none =>
          rw [e1] at h
          cases e2 : negOf c i with
          | none => rw [e2] at h; cases h
          | some q => rw [e2] at h; cases h; exact ⟨ls hj (un hi e2), trivial⟩
  | sub i j =>
    have hi : i < c.length := hl i (by simp [Line.uses])
    have hj : j < c.length := hl j (by simp [Line.uses])
    simp only [identity] at h
    split at h
    · cases h; exact hi
    · split at h
      · cases h; exact ⟨l0, zero_fit⟩
      · split at h
        · cases h; exact ⟨ln hj, trivial⟩
        · cases e : negOf c j with
          | none => rw [e] at h; cases h
          | some q => rw [e] at h; cases h; exact ⟨la hi (un hj e), trivial⟩
  | mul i j =>
    have hi : i < c.length := hl i (by simp [Line.uses])
    have hj : j < c.length := hl j (by simp [Line.uses])
    simp only [identity] at h
    repeat' (split at h)
    all_goals first | cases h
    · exact ⟨l0, zero_fit⟩
    · exact hj
    · exact hi
    · exact ⟨ln hj, trivial⟩
    · exact ⟨ln hi, trivial⟩
  | div i j =>
    have hi : i < c.length := hl i (by simp [Line.uses])
    have hj : j < c.length := hl j (by simp [Line.uses])
    simp only [identity] at h
    repeat' (split at h)
    all_goals first | cases h
    · exact hi
    · exact ⟨l1, one_fit⟩
    · exact ⟨l0, zero_fit⟩
    · exact ⟨ln hi, trivial⟩
  | neg i =>
    have hi : i < c.length := hl i (by simp [Line.uses])
    simp only [identity] at h
    cases e1 : negOf c i with
    | some q => rw [e1] at h; cases h; exact un hi e1
    | none =>
      rw [e1] at h
      cases e2 : subOf c i with
      | none => rw [e2] at h; cases h
      | some x => rw [e2] at h; cases h; exact ⟨ls (us hi e2).2 (us hi e2).1, trivial⟩
theorem folded_num (c : Code) (a : Frac) : folded c (.num a) = none := rfl
theorem identity_num (c : Code) (a : Frac) : identity c (.num a) = none := rfl
theorem step_num (m : Mode) (c : Code) (a : Frac) : step m c (.line (.num a)) = none := by
  show (match (if m.fold = true then folded c (.num a) else none) with
    | some a => some (Made.line (.num a))
    | none => if m.same = true then identity c (.num a) else none) = none
  rw [folded_num, identity_num]
  cases m.fold <;> cases m.same <;> rfl
theorem step_line (m : Mode) (c : Code) (l : Line) : step m c (.line l) = match (if m.fold = true then folded c l else none) with
    | some a => some (.line (.num a))
    | none => if m.same = true then identity c l else none := rfl
/-- nothing more to do: with any number of steps the line itself -/
theorem simple_end {m : Mode} {c : Code} {l : Line} (h : step m c (.line l) = none) : ∀ f : Nat, simple m c f l = .line l
  | 0 => rfl
  | f + 1 => by
    rw [step_line] at h
    unfold simple
    cases e : (if m.fold = true then folded c l else none) with
    | some a => rw [e] at h; cases h
    | none =>
      rw [e] at h
      have h' : (if m.same = true then identity c l else none) = none := h
      show (match (if m.same = true then identity c l else none) with
        | some (.old i) => Made.old i
        | some (.line k) => simple m c f k
        | none => .line l) = .line l
      rw [h']
/-- the measure: steps that are left at most -/
def left (m : Mode) (c : Code) : Made → Nat
  | .old _ => 0
  | .line l => match step m c (.line l) with
    | none => 0
    | some _ => rank c l + 2
end SC
namespace SC
open Vagraa (Frac frac zero one isZero weight bits)
open VagraLine (Line Code)
open Vagral (Made Mode lineAt constAt isConst negOf subOf folded identity simple minus1 turned moved Built built put next HEAVY)
variable {ni : Nat}
theorem constAt_fit {c : Code} {i : Nat} {a : Frac} (O : Ord ni c) (hi : i < c.length) (h : constAt c i = some a) : Fit a := by
  have := O.fit i _ (get_lineAt hi)
  rw [constAt_some h] at this
  exact this
theorem folded_cap {c : Code} {l : Line} {a : Frac} (h : folded c l = some a) : weight a ≤ 200 := by
  unfold folded at h
  dsimp only at h
  split at h
  · split at h
    · cases h
    · rename_i hw
      cases h
      have : ¬ 200 < weight a := hw
      omega
  · cases h
def fold1 (c : Code) : Line → Option Frac
  | .add i j => match constAt c i, constAt c j with | some a, some b => some (Vagraa.add a b) | _, _ => none
  | .sub i j => match constAt c i, constAt c j with | some a, some b => some (Vagraa.sub a b) | _, _ => none
  | .mul i j => match constAt c i, constAt c j with | some a, some b => some (Vagraa.mul a b) | _, _ => none
  | .div i j => match constAt c i, constAt c j with | some a, some b => if isZero b = true then none else some (Vagraa.div a b) | _, _ => none
  | .neg i => (constAt c i).map Vagraa.neg
  | _ => none
theorem folded_eq (c : Code) (l : Line) : folded c l = match fold1 c l with
    | some a => if HEAVY < weight a then none else some a
    | none => none := by
  unfold folded
  cases l <;> rfl
theorem fold1_den {c : Code} {l : Line} {a : Frac} (O : Ord ni c) (hl : Low c.length l) (h : fold1 c l = some a) : 1 ≤ a.den := by
  cases l with
  | input k => cases h
  | num a => cases h
  | neg i =>
    have hi : i < c.length := hl i (by simp [Line.uses])
    simp only [fold1] at h
    cases e : constAt c i with
    | none => rw [e] at h; cases h
    | some x => rw [e] at h; cases h; exact (constAt_fit O hi e).1
  | add i j | sub i j | mul i j =>
    all_goals
    have hi : i < c.length := hl i (by simp [Line.uses])
    have hj : j < c.length := hl j (by simp [Line.uses])
    simp only [fold1] at h
    cases e : constAt c i with
    | none => rw [e] at h; cases h
    | some x =>
      cases e2 : constAt c j with
      | none => rw [e, e2] at h; cases h
      | some y =>
        rw [e, e2] at h
        cases h
        first
        | exact add_den (constAt_fit O hi e).1 (constAt_fit O hj e2).1
        | exact mul_den (constAt_fit O hi e).1 (constAt_fit O hj e2).1
  | div i j =>
    have hi : i < c.length := hl i (by simp [Line.uses])
    have hj : j < c.length := hl j (by simp [Line.uses])
    simp only [fold1] at h
    cases e : constAt c i with
    | none => rw [e] at h; cases h
    | some x =>
      cases e2 : constAt c j with
      | none => rw [e, e2] at h; cases h
      | some y =>
        rw [e, e2] at h
        dsimp only at h
        split at h
        · cases h
        · rename_i z
          cases h
          exact div_den (constAt_fit O hi e).1 (fun q => z (decide_eq_true q))
theorem folded_fit {c : Code} {l : Line} {a : Frac} (O : Ord ni c) (hl : Low c.length l) (h : folded c l = some a) : Fit a := by
  refine ⟨?_, folded_cap h⟩
  rw [folded_eq] at h
  cases e : fold1 c l with
  | none => rw [e] at h; cases h
  | some x =>
    rw [e] at h
    dsimp only at h
    split at h
    · cases h
    · cases h; exact fold1_den O hl e
def Good (ni : Nat) (c : Code) : Made → Prop
  | .old i => i < c.length
  | .line k => Low c.length k ∧ FitL ni k
theorem step_good {m : Mode} {c : Code} {x y : Made} (O : Ord ni c) (g : Good ni c x) (h : step m c x = some y) : Good ni c y := by
  cases x with
  | old i => cases h
  | line l =>
    rw [step_line] at h
    cases e : (if m.fold = true then folded c l else none) with
    | some a =>
      rw [e] at h
      cases h
      have e2 : folded c l = some a := by
        split at e
        · exact e
        · cases e
      exact ⟨fun u hu => by simp [Line.uses] at hu, folded_fit O g.1 e2⟩
    | none =>
      rw [e] at h
      dsimp only at h
      split at h
      · have q := identity_low O g.1 h
        cases y <;> exact q
      · cases h
theorem left_some {m : Mode} {c : Code} {l : Line} {y : Made} (e : step m c (.line l) = some y) : left m c (.line l) = rank c l + 2 := by
  show (match step m c (.line l) with | none => 0 | some _ => rank c l + 2) = _
  rw [e]
theorem left_none {m : Mode} {c : Code} {l : Line} (e : step m c (.line l) = none) : left m c (.line l) = 0 := by
  show (match step m c (.line l) with | none => 0 | some _ => rank c l + 2) = _
  rw [e]
def rk (m : Mode) (c : Code) (l : Line) : Nat := if m.same = true then rank c l else 0
/-- THE LOOP'S WORD: at x the specification's r is still to come -/
inductive Way' (m : Mode) (c : Code) (r : Made) : Made → Prop
  | old (i : Nat) : r = .old i → Way' m c r (.old i)
  | line (l : Line) (f : Nat) : rk m c l < f → simple m c f l = r → Way' m c r (.line l)
theorem Way'.start (m : Mode) (c : Code) (l : Line) : Way' m c (simple m c 8 l) (.line l) := .line l 8 (by unfold rk; have := rank_le c l; split <;> omega) rfl
theorem Way'.fin {m : Mode} {c : Code} {r x : Made} (h : Way' m c r x) (e : step m c x = none) : x = r := by
  cases h with
  | old i q => exact q.symm
  | line l f _ q => rw [← q, simple_end e]
theorem Way'.next {m : Mode} {c : Code} {r x y : Made} (N : m.same = true → Nf c) (g : Good ni c x) (h : Way' m c r x) (e : step m c x = some y) : Way' m c r y ∧ left m c y < left m c x := by
  cases h with
  | old i q => cases e
  | line l f hf q =>
    have hx : left m c (.line l) = rank c l + 2 := left_some e
    obtain ⟨f, rfl⟩ : ∃ f', f = f' + 1 := ⟨f - 1, by omega⟩
    have e' := e
    rw [step_line] at e'
    unfold simple at q
    cases ef : (if m.fold = true then folded c l else none) with
    | some a =>
      rw [ef] at e' q
      cases e'
      dsimp only at q
      refine ⟨.line _ 1 ?_ ?_, ?_⟩
      · unfold rk; simp only [rank]; split <;> omega
      · rw [simple_end (step_num m c a)]; exact q
      · rw [hx, left_none (step_num m c a)]
        omega
    | none =>
      rw [ef] at e' q
      dsimp only at e' q
      split at e'
      · rename_i hm
        rw [if_pos hm, e'] at q
        cases y with
        | old i =>
          dsimp only at q
          refine ⟨.old i q.symm, ?_⟩
          rw [hx]
          show 0 < _
          omega
        | line k =>
          dsimp only at q
          have hr := identity_rank (N hm) g.1 e'
          unfold rk at hf
          rw [if_pos hm] at hf
          refine ⟨.line k f ?_ q, ?_⟩
          · unfold rk
            rw [if_pos hm]
            omega
          · rw [hx]
            have : left m c (.line k) ≤ rank c k + 2 := by
              cases ek : step m c (.line k) with
              | none => rw [left_none ek]; exact Nat.zero_le _
              | some z => rw [left_some ek]; exact Nat.le_refl _
            omega
      · cases e'
/-- what a settled line is -/
theorem simple_good {m : Mode} {c : Code} (O : Ord ni c) (N : m.same = true → Nf c) : ∀ (f : Nat) (l : Line), rk m c l < f → Low c.length l → FitL ni l → Good ni c (simple m c f l) ∧ step m c (simple m c f l) = none := by
  have key : ∀ (n : Nat) (x r : Made), left m c x ≤ n → Way' m c r x → Good ni c x → Good ni c r ∧ step m c r = none := by
    intro n
    induction n with
    | zero =>
      intro x r hn w g
      cases e : step m c x with
      | none => have := w.fin e; subst this; exact ⟨g, e⟩
      | some y => have := (w.next N g e).2; omega
    | succ n ih =>
      intro x r hn w g
      cases e : step m c x with
      | none => have := w.fin e; subst this; exact ⟨g, e⟩
      | some y => exact ih y r (by have := (w.next N g e).2; omega) (w.next N g e).1 (step_good O g e)
  intro f l hf hl ht
  exact key _ (.line l) _ (Nat.le_refl _) (.line l f hf rfl) ⟨hl, ht⟩
/-! ### all lines -/
structure Bt (ni : Nat) (m : Mode) (b : Built) (n : Nat) : Prop where
  ord : Ord ni b.code
  nf : m.same = true → Nf b.code
  len : b.to.length = n
  to : ∀ (i t : Nat), b.to[i]? = some t → t < b.code.length
  few : b.code.length ≤ n
theorem Bt.nil (m : Mode) : Bt ni m ⟨[], []⟩ 0 := ⟨Ord.nil, fun _ => Nf.nil, rfl, fun i t h => by simp at h, Nat.le_refl _⟩
theorem turned_low {n : Nat} {l : Line} (h : Low n l) : Low n (turned l) := by
  cases l <;> simp only [turned] <;> (try exact h)
  all_goals (split; (intro u hu; simp [Line.uses] at hu; exact h u (by simp [Line.uses]; omega)); exact h)
theorem turned_fit {l : Line} (h : FitL ni l) : FitL ni (turned l) := by
  cases l <;> simp only [turned] <;> (try exact h)
  all_goals (split <;> exact trivial)
theorem turned_neg {l : Line} {k : Nat} (h : turned l = .neg k) : l = .neg k := by
  cases l <;> simp only [turned] at h <;> (try exact h)
  all_goals (split at h <;> cases h)
theorem turned_sub {l : Line} {x y : Nat} (h : turned l = .sub x y) : l = .sub x y := by
  cases l <;> simp only [turned] at h <;> (try exact h)
  all_goals (split at h <;> cases h)
theorem Nf.snoc {c : Code} {l k : Line} (O : Ord ni c) (N : Nf c) (hl : Low c.length l) (e : identity c l = none) (hk : k = l ∨ k = turned l) : Nf (c ++ [k]) := by
  refine ⟨fun i a h => ?_, fun i x y h => ?_⟩
  · rcases get_snoc h with h | ⟨rfl, hq⟩
    · have ha : a < c.length := Nat.lt_trans (O.low i _ h a (by simp [Line.uses])) (List.getElem?_eq_some_iff.mp h).1
      rw [negOf_snoc ha, subOf_snoc ha]
      exact N.neg i a h
    · have hl' : l = .neg a := by
        rcases hk with hk | hk
        · rw [← hk, hq]
        · exact turned_neg (by rw [← hk, hq])
      subst hl'
      have ha : a < c.length := hl a (by simp [Line.uses])
      rw [negOf_snoc ha, subOf_snoc ha]
      simp only [identity] at e
      cases e1 : negOf c a with
      | some q => rw [e1] at e; cases e
      | none =>
        rw [e1] at e
        cases e2 : subOf c a with
        | some q => rw [e2] at e; cases e
        | none => exact ⟨rfl, rfl⟩
  · rcases get_snoc h with h | ⟨rfl, hq⟩
    · have ha : y < c.length := Nat.lt_trans (O.low i _ h y (by simp [Line.uses])) (List.getElem?_eq_some_iff.mp h).1
      rw [negOf_snoc ha, isConst_snoc ha]
      exact N.sub i x y h
    · have hl' : l = .sub x y := by
        rcases hk with hk | hk
        · rw [← hk, hq]
        · exact turned_sub (by rw [← hk, hq])
      subst hl'
      have ha : y < c.length := hl y (by simp [Line.uses])
      rw [negOf_snoc ha, isConst_snoc ha]
      simp only [identity] at e
      split at e
      · cases e
      · rename_i z
        split at e
        · cases e
        · split at e
          · cases e
          · cases e1 : negOf c y with
            | some q => rw [e1] at e; cases e
            | none => exact ⟨by simpa using z, rfl⟩
theorem to_snoc {to : List Nat} {t n i u : Nat} (h : ∀ (i t : Nat), to[i]? = some t → t < n) (ht : t < n) (e : (to ++ [t])[i]? = some u) : u < n := by
  by_cases hi : i < to.length
  · rw [List.getElem?_append_left hi] at e; exact h i u e
  · rw [List.getElem?_append_right (by omega)] at e
    cases hz : i - to.length with
    | zero => rw [hz] at e; simp at e; omega
    | succ k => rw [hz] at e; simp at e
theorem Bt.put {m : Mode} {b : Built} {n : Nat} {l : Line} (B : Bt ni m b n) (hl : Low b.code.length l) (hf : FitL ni l) (hs : step m b.code (.line l) = none) : Bt ni m (put m b l) (n + 1) := by
  have hid : m.same = true → identity b.code l = none := fun hm => by
    rw [step_line] at hs
    split at hs
    · cases hs
    · rw [if_pos hm] at hs; exact hs
  have newk : ∀ k : Line, (k = l ∨ k = turned l) → Bt ni m ⟨b.code ++ [k], b.to ++ [b.code.length]⟩ (n + 1) := fun k hk => by
    have hkl : Low b.code.length k := by rcases hk with rfl | rfl; exact hl; exact turned_low hl
    have hkf : FitL ni k := by rcases hk with rfl | rfl; exact hf; exact turned_fit hf
    refine ⟨B.ord.snoc hkl hkf, fun hm => (B.nf hm).snoc B.ord hl (hid hm) hk, by simp [B.len], fun i t e => ?_, by have := B.few; simp; omega⟩
    refine to_snoc (n := (b.code ++ [k]).length) (fun i t h => ?_) (by simp) e
    have := B.to i t h
    simp; omega
  unfold Vagral.put
  dsimp only
  by_cases hm : m.share = true
  · rw [if_pos hm, if_pos hm]
    cases e : b.code.findIdx? (fun x => decide (x = turned l)) with
    | none => exact newk _ (.inr rfl)
    | some i =>
      have hi : i < b.code.length := (List.findIdx?_eq_some_iff_getElem.mp e).1
      exact ⟨B.ord, B.nf, by simp [B.len], fun j t h => to_snoc B.to hi h, by have := B.few; show b.code.length ≤ n + 1; omega⟩
  · rw [if_neg hm, if_neg hm]
    exact newk _ (.inl rfl)
theorem moved_low {m : Mode} {b : Built} {n : Nat} {l : Line} (B : Bt ni m b n) (hl : Low n l) : Low b.code.length (moved b.to l) := by
  have t : ∀ {i : Nat}, i < n → b.to.getD i 0 < b.code.length := fun {i} hi => by
    have h1 : i < b.to.length := by rw [B.len]; exact hi
    rw [List.getD_eq_getElem?_getD, List.getElem?_eq_getElem h1]
    exact B.to i _ (List.getElem?_eq_getElem h1)
  cases l with
  | input k => exact fun u hu => by simp [moved, Line.uses] at hu
  | num a => exact fun u hu => by simp [moved, Line.uses] at hu
  | neg i =>
    intro u hu
    simp [moved, Line.uses] at hu
    have := t (hl i (by simp [Line.uses]))
    rw [List.getD_eq_getElem?_getD] at this
    subst hu; exact this
  | add i j | sub i j | mul i j | div i j =>
    all_goals
    intro u hu
    have h1 := t (hl i (by simp [Line.uses]))
    have h2 := t (hl j (by simp [Line.uses]))
    rw [List.getD_eq_getElem?_getD] at h1 h2
    simp [moved, Line.uses] at hu
    rcases hu with rfl | rfl
    · exact h1
    · exact h2
theorem moved_fit {to : List Nat} {l : Line} (h : FitL ni l) : FitL ni (moved to l) := by cases l <;> exact h
theorem Bt.next {m : Mode} {b : Built} {n : Nat} {l : Line} (B : Bt ni m b n) (hl : Low n l) (hf : FitL ni l) : Bt ni m (next m b l) (n + 1) := by
  have h := simple_good B.ord B.nf 8 (moved b.to l) (by unfold rk; have := rank_le b.code (moved b.to l); split <;> omega) (moved_low B hl) (moved_fit hf)
  unfold Vagral.next
  cases e : simple m b.code 8 (moved b.to l) with
  | old i =>
    rw [e] at h
    exact ⟨B.ord, B.nf, by simp [B.len], fun j t q => to_snoc B.to h.1 q, by have := B.few; show b.code.length ≤ n + 1; omega⟩
  | line k =>
    rw [e] at h
    exact B.put h.1.1 h.1.2 h.2
/-- the lines made of the first i lines -/
def made (m : Mode) (c : Code) (i : Nat) : Built := (c.take i).foldl (next m) ⟨[], []⟩
theorem made_all (m : Mode) (c : Code) : made m c c.length = built m c := by unfold made built; rw [List.take_length]
theorem take_snoc {α : Type} : ∀ {l : List α} {i : Nat} {x : α}, l[i]? = some x → l.take (i + 1) = l.take i ++ [x]
  | [], i, x, h => by simp at h
  | a :: l, 0, x, h => by have e : a = x := Option.some.inj h; subst e; rfl
  | a :: l, i + 1, x, h => by
    have ih := take_snoc (l := l) (i := i) (x := x) h
    show a :: l.take (i + 1) = a :: l.take i ++ [x]
    rw [ih]; rfl
theorem made_succ {m : Mode} {c : Code} {i : Nat} {l : Line} (h : c[i]? = some l) : made m c (i + 1) = next m (made m c i) l := by
  unfold made
  rw [take_snoc h, List.foldl_append]
  rfl
theorem made_ok {m : Mode} {c : Code} (O : Ord ni c) : ∀ i, i ≤ c.length → Bt ni m (made m c i) i
  | 0, _ => Bt.nil m
  | i + 1, h => by
    have hi : i < c.length := h
    rw [made_succ (get_lineAt hi)]
    exact (made_ok O i (by omega)).next (O.low i _ (get_lineAt hi)) (O.fit i _ (get_lineAt hi))
end SC
namespace SC
open Vagraa (Frac frac zero one isZero weight bits)
open VagraLine (Line Code)
open Vagral (Made Mode lineAt constAt isConst negOf subOf folded identity simple minus1 turned moved Built built put next HEAVY needed keptLines places small Small)
variable {ni : Nat}
/-! ### dead lines -/
/-- what is needed when the last k lines have been gone through -/
def nd (c : Code) (o : List Nat) (k : Nat) : List Nat := ((c.zipIdx.reverse).take k).foldl (fun l x => if l.contains x.2 = true then l ++ x.1.uses else l) o
theorem nd_all (c : Code) (o : List Nat) : nd c o c.length = needed c o := by
  unfold nd needed
  rw [List.take_of_length_le (by simp)]
theorem zip_rev {c : Code} {k : Nat} (h : k < c.length) : (c.zipIdx.reverse)[k]? = some (lineAt c (c.length - 1 - k), c.length - 1 - k) := by
  rw [List.getElem?_reverse (by simpa using h)]
  rw [List.length_zipIdx, List.getElem?_zipIdx, get_lineAt (show c.length - 1 - k < c.length by omega)]
  simp
theorem nd_succ {c : Code} {o : List Nat} {k : Nat} (h : k < c.length) : nd c o (k + 1) = if (nd c o k).contains (c.length - 1 - k) = true then nd c o k ++ (lineAt c (c.length - 1 - k)).uses else nd c o k := by
  unfold nd
  rw [take_snoc (zip_rev h), List.foldl_append]
  rfl
theorem nd_grow {c : Code} {o : List Nat} {x k : Nat} (h : k < c.length) (hx : x ∈ nd c o k) : x ∈ nd c o (k + 1) := by
  rw [nd_succ h]
  split
  · exact List.mem_append_left _ hx
  · exact hx
theorem nd_mono {c : Code} {o : List Nat} {x k : Nat} : ∀ d, k + d ≤ c.length → x ∈ nd c o k → x ∈ nd c o (k + d)
  | 0, _, hx => hx
  | d + 1, h, hx => nd_grow (show k + d < c.length by omega) (nd_mono d (by omega) hx)
theorem nd_late {c : Code} {o : List Nat} {i : Nat} (O : Ord ni c) (hi : i < c.length) : ∀ d, c.length - 1 - i + d ≤ c.length → i ∈ nd c o (c.length - 1 - i + d) → i ∈ nd c o (c.length - 1 - i)
  | 0, _, hx => hx
  | d + 1, h, hx => by
    refine nd_late O hi d (by omega) ?_
    have hx' : i ∈ nd c o (c.length - 1 - i + d + 1) := hx
    have hk : c.length - 1 - i + d < c.length := by omega
    rw [nd_succ hk] at hx'
    split at hx'
    · rcases List.mem_append.mp hx' with q | q
      · exact q
      · have := O.low _ _ (get_lineAt (show c.length - 1 - (c.length - 1 - i + d) < c.length by omega)) i q
        omega
    · exact hx'
theorem needed_closed {c : Code} {o : List Nat} {i u : Nat} (O : Ord ni c) (hi : i < c.length) (h : i ∈ needed c o) (hu : u ∈ (lineAt c i).uses) : u ∈ needed c o := by
  rw [← nd_all] at h ⊢
  have e : c.length - 1 - i + (i + 1) = c.length := by omega
  have h1 : i ∈ nd c o (c.length - 1 - i) := nd_late O hi (i + 1) (by omega) (by rw [e]; exact h)
  have h2 : u ∈ nd c o (c.length - 1 - i + 1) := by
    rw [nd_succ (by omega), show c.length - 1 - (c.length - 1 - i) = i by omega, if_pos (List.contains_iff_mem.mpr h1)]
    exact List.mem_append_right _ hu
  have h3 := nd_mono i (by omega) h2
  rw [show c.length - 1 - i + 1 + i = c.length by omega] at h3
  exact h3
theorem needed_outs {c : Code} {o : List Nat} {i : Nat} (h : i ∈ o) : i ∈ needed c o := by
  rw [← nd_all]
  have := nd_mono (c := c) (o := o) (x := i) (k := 0) c.length (by omega) h
  rw [Nat.zero_add] at this
  exact this
/-- bools that tell what is in a list -/
def Marks (nb : List Bool) (l : List Nat) : Prop := ∀ i, i < nb.length → nb[i]? = some (l.contains i)
theorem Marks.set {nb : List Bool} {l : List Nat} {u : Nat} (h : Marks nb l) (hu : u < nb.length) : Marks (nb.set u true) (l ++ [u]) := by
  intro i hi
  rw [List.length_set] at hi
  by_cases e : u = i
  · subst e
    rw [List.getElem?_set_self hu]
    simp
  · rw [List.getElem?_set_ne e, h i hi]
    congr 1
    rw [Bool.eq_iff_iff, List.contains_iff_mem, List.contains_iff_mem, List.mem_append, List.mem_singleton]
    constructor
    · exact Or.inl
    · rintro (q | q)
      · exact q
      · exact absurd q.symm e
theorem Marks.none {n : Nat} : Marks (List.replicate n false) [] := by
  intro i hi
  rw [List.length_replicate] at hi
  rw [List.getElem?_replicate, if_pos hi]
  rfl
/-! ### what is kept -/
def kp (P : Nat → Bool) (n : Nat) : List Nat := (List.range n).filter P
/-- how many of the kept stand below i -/
def rn (P : Nat → Bool) (i : Nat) : Nat := (kp P i).length
theorem kp_succ (P : Nat → Bool) (n : Nat) : kp P (n + 1) = if P n = true then kp P n ++ [n] else kp P n := by
  unfold kp
  rw [List.range_succ, List.filter_append]
  by_cases h : P n = true
  · rw [if_pos h, List.filter_cons, if_pos h]; rfl
  · rw [if_neg h, List.filter_cons, if_neg h]; simp
theorem rn_succ (P : Nat → Bool) (n : Nat) : rn P (n + 1) = if P n = true then rn P n + 1 else rn P n := by
  unfold rn
  rw [kp_succ]
  split
  · simp
  · rfl
theorem rn_mono {P : Nat → Bool} {i : Nat} : ∀ d, rn P i ≤ rn P (i + d)
  | 0 => Nat.le_refl _
  | d + 1 => by
    have := rn_mono (P := P) (i := i) d
    show rn P i ≤ rn P (i + d + 1)
    rw [rn_succ]
    split <;> omega
theorem rn_lt {P : Nat → Bool} {u i : Nat} (h : u < i) (hu : P u = true) : rn P u < rn P i := by
  have := rn_mono (P := P) (i := u + 1) (i - (u + 1))
  rw [show u + 1 + (i - (u + 1)) = i by omega, rn_succ, if_pos hu] at this
  omega
theorem kp_mem {P : Nat → Bool} {n i : Nat} : i ∈ kp P n ↔ i < n ∧ P i = true := by
  unfold kp
  rw [List.mem_filter, List.mem_range]
theorem kp_find {P : Nat → Bool} {u : Nat} : ∀ n, (kp P n).findIdx? (fun j => decide (j = u)) = if u < n ∧ P u = true then some (rn P u) else none
  | 0 => by rw [if_neg (by omega)]; rfl
  | n + 1 => by
    rw [kp_succ]
    have ih := kp_find (P := P) (u := u) n
    by_cases h : P n = true
    · rw [if_pos h, List.findIdx?_append, ih]
      by_cases hu : u < n ∧ P u = true
      · rw [if_pos hu, if_pos ⟨by omega, hu.2⟩]; rfl
      · rw [if_neg hu]
        by_cases e : u = n
        · subst e
          rw [if_pos ⟨by omega, h⟩]
          simp [rn, List.findIdx?_cons]
        · rw [if_neg (fun q => hu ⟨by omega, q.2⟩)]
          have e2 : decide (n = u) = false := decide_eq_false (fun q => e q.symm)
          simp [List.findIdx?_cons, e2]
    · rw [if_neg h, ih]
      by_cases hu : u < n ∧ P u = true
      · rw [if_pos hu, if_pos ⟨by omega, hu.2⟩]
      · rw [if_neg hu, if_neg]
        rintro ⟨q1, q2⟩
        by_cases e : u = n
        · subst e; exact h q2
        · exact hu ⟨by omega, q2⟩
theorem kp_get {P : Nat → Bool} {i : Nat} : ∀ n, i < n → P i = true → (kp P n)[rn P i]? = some i
  | 0, h, _ => by omega
  | n + 1, h, hp => by
    rw [kp_succ]
    by_cases e : i = n
    · subst e
      rw [if_pos hp]
      unfold rn
      simp
    · have ih := kp_get n (by omega) hp
      have hl : rn P i < (kp P n).length := (List.getElem?_eq_some_iff.mp ih).1
      split
      · rw [List.getElem?_append_left hl]; exact ih
      · exact ih
theorem kp_at {P : Nat → Bool} {n j i : Nat} (h : (kp P n)[j]? = some i) : i < n ∧ P i = true ∧ j = rn P i := by
  have hm := kp_mem.mp (List.mem_of_getElem? h)
  refine ⟨hm.1, hm.2, ?_⟩
  have q := kp_get n hm.1 hm.2
  have nd : (kp P n).Nodup := by
    unfold kp
    exact List.Pairwise.filter _ List.nodup_range
  obtain ⟨h1, e1⟩ := List.getElem?_eq_some_iff.mp h
  obtain ⟨h2, e2⟩ := List.getElem?_eq_some_iff.mp q
  exact (List.getElem_inj nd).mp (e1.trans e2.symm)
theorem places_at {P : Nat → Bool} {n u : Nat} (h : u < n) (hp : P u = true) : (places n (kp P n)).getD u 0 = rn P u := by
  unfold places
  rw [List.getD_eq_getElem?_getD, List.getElem?_map, List.getElem?_range h]
  show (match (kp P n).findIdx? (fun j => decide (j = u)) with | some p => p | none => n) = _
  rw [kp_find, if_pos ⟨h, hp⟩]
/-- the new number of a line, -1 where it's gone -/
def num (P : Nat → Bool) (i : Nat) : Int := if P i = true then (rn P i : Int) else -1
/-- whether a line of the code is needed -/
def isN (c : Code) (o : List Nat) (i : Nat) : Bool := (needed c o).contains i
theorem keptLines_kp (c : Code) (o : List Nat) : keptLines c o = kp (isN c o) c.length := rfl
/-- a line with its lines' new numbers -/
def mvP (P : Nat → Bool) : Line → Line
  | .add i j => .add (rn P i) (rn P j)
  | .sub i j => .sub (rn P i) (rn P j)
  | .mul i j => .mul (rn P i) (rn P j)
  | .div i j => .div (rn P i) (rn P j)
  | .neg i => .neg (rn P i)
  | l => l
theorem moved_mvP {P : Nat → Bool} {n : Nat} {l : Line} (h : ∀ u ∈ l.uses, u < n ∧ P u = true) : moved (places n (kp P n)) l = mvP P l := by
  cases l with
  | input k => rfl
  | num a => rfl
  | neg i => simp only [moved, mvP]; rw [places_at (h i (by simp [Line.uses])).1 (h i (by simp [Line.uses])).2]
  | add i j | sub i j | mul i j | div i j =>
    all_goals
    simp only [moved, mvP]
    rw [places_at (h i (by simp [Line.uses])).1 (h i (by simp [Line.uses])).2, places_at (h j (by simp [Line.uses])).1 (h j (by simp [Line.uses])).2]
/-- the lines that are kept of the first i -/
def kl (c : Code) (P : Nat → Bool) (i : Nat) : Code := (kp P i).map fun j => mvP P (lineAt c j)
theorem kl_succ (c : Code) (P : Nat → Bool) (i : Nat) : kl c P (i + 1) = if P i = true then kl c P i ++ [mvP P (lineAt c i)] else kl c P i := by
  unfold kl
  rw [kp_succ]
  split
  · rw [List.map_append]; rfl
  · rfl
theorem kl_len (c : Code) (P : Nat → Bool) (i : Nat) : (kl c P i).length = rn P i := by unfold kl rn; rw [List.length_map]
theorem isN_uses {c : Code} {o : List Nat} {i u : Nat} (O : Ord ni c) (hi : i < c.length) (h : isN c o i = true) (hu : u ∈ (lineAt c i).uses) : u < i ∧ isN c o u = true :=
  ⟨O.low i _ (get_lineAt hi) u hu, List.contains_iff_mem.mpr (needed_closed O hi (List.contains_iff_mem.mp h) hu)⟩
theorem kept_code {c : Code} {o : List Nat} (O : Ord ni c) : (keptLines c o).map (fun i => moved (places c.length (keptLines c o)) (lineAt c i)) = kl c (isN c o) c.length := by
  rw [keptLines_kp]
  unfold kl
  apply List.map_congr_left
  intro i hi
  obtain ⟨h1, h2⟩ := kp_mem.mp hi
  exact moved_mvP fun u hu => ⟨Nat.lt_trans (isN_uses O h1 h2 hu).1 h1, (isN_uses O h1 h2 hu).2⟩
theorem kl_ord {c : Code} {o : List Nat} (O : Ord ni c) : Ord ni (kl c (isN c o) c.length) := by
  have get : ∀ {j : Nat} {l : Line}, (kl c (isN c o) c.length)[j]? = some l → ∃ i, i < c.length ∧ isN c o i = true ∧ j = rn (isN c o) i ∧ l = mvP (isN c o) (lineAt c i) := fun {j l} h => by
    unfold kl at h
    rw [List.getElem?_map] at h
    cases e : (kp (isN c o) c.length)[j]? with
    | none => rw [e] at h; cases h
    | some i =>
      rw [e] at h
      obtain ⟨h1, h2, h3⟩ := kp_at e
      exact ⟨i, h1, h2, h3, (Option.some.inj h).symm⟩
  refine ⟨fun j l h => ?_, fun j l h => ?_⟩
  · obtain ⟨i, hi, hp, rfl, rfl⟩ := get h
    have key : ∀ u ∈ (lineAt c i).uses, rn (isN c o) u < rn (isN c o) i := fun u hu => rn_lt (isN_uses O hi hp hu).1 (isN_uses O hi hp hu).2
    intro u hu
    cases e : lineAt c i with
    | input k => rw [e] at hu; simp [mvP, Line.uses] at hu
    | num a => rw [e] at hu; simp [mvP, Line.uses] at hu
    | neg a => rw [e] at hu key; simp [mvP, Line.uses] at hu; subst hu; exact key a (by simp [Line.uses])
    | add a b | sub a b | mul a b | div a b =>
      all_goals
      rw [e] at hu key
      simp [mvP, Line.uses] at hu
      rcases hu with rfl | rfl
      · exact key a (by simp [Line.uses])
      · exact key b (by simp [Line.uses])
  · obtain ⟨i, hi, hp, rfl, rfl⟩ := get h
    have := O.fit i _ (get_lineAt hi)
    cases e : lineAt c i <;> rw [e] at this <;> exact this
theorem small_dead {m : Mode} {c : Code} {outs : List Nat} (O : Ord ni (built m c).code) (h : m.dead = true) :
    small m c outs = ⟨kl (built m c).code (isN (built m c).code (outs.map fun i => (built m c).to.getD i 0)) (built m c).code.length,
      (built m c).to.map fun i => if (keptLines (built m c).code (outs.map fun i => (built m c).to.getD i 0)).contains i = true then some ((places (built m c).code.length (keptLines (built m c).code (outs.map fun i => (built m c).to.getD i 0))).getD i 0) else none,
      (outs.map fun i => (built m c).to.getD i 0).map fun i => (places (built m c).code.length (keptLines (built m c).code (outs.map fun i => (built m c).to.getD i 0))).getD i 0⟩ := by
  unfold small
  dsimp only
  rw [if_neg (by rw [h]; decide), kept_code O]
theorem to_num {c : Code} {o : List Nat} {t : Nat} (h : t < c.length) : Vagral.optional (if (keptLines c o).contains t = true then some ((places c.length (keptLines c o)).getD t 0) else none) = num (isN c o) t := by
  rw [keptLines_kp]
  unfold num
  by_cases hp : isN c o t = true
  · rw [if_pos hp, if_pos (List.contains_iff_mem.mpr (kp_mem.mpr ⟨h, hp⟩)), places_at h hp]
    rfl
  · rw [if_neg hp, if_neg (fun q => hp (kp_mem.mp (List.contains_iff_mem.mp q)).2)]
    rfl
theorem out_num {c : Code} {o : List Nat} {t : Nat} (h : t < c.length) (ho : t ∈ o) : (((places c.length (keptLines c o)).getD t 0 : Nat) : Int) = num (isN c o) t := by
  rw [keptLines_kp]
  unfold num
  have hp : isN c o t = true := List.contains_iff_mem.mpr (needed_outs ho)
  rw [if_pos hp, places_at h hp]
end SC
namespace SC
open Vagraa (Frac frac zero one isZero weight bits)
open VagraLine (Line Code codeOf well wellFrom)
open Vagral (Made Mode lineAt depths deepest)
variable {ni : Nat}
/-! ### depth -/
def dp1 (l : List Nat) (x : Line) : Nat := if x.isOp = true then (x.uses.foldl (fun d i => Nat.max d (l.getD i 0)) 0) + 1 else 0
def dp (c : Code) (i : Nat) : List Nat := (c.take i).foldl (fun l x => l ++ [dp1 l x]) []
theorem dp_all (c : Code) : dp c c.length = depths c := by unfold dp depths; rw [List.take_length]; rfl
theorem dp_succ {c : Code} {i : Nat} {l : Line} (h : c[i]? = some l) : dp c (i + 1) = dp c i ++ [dp1 (dp c i) l] := by
  unfold dp
  rw [take_snoc h, List.foldl_append]
  rfl
theorem dp_len {c : Code} : ∀ i, i ≤ c.length → (dp c i).length = i
  | 0, _ => rfl
  | i + 1, h => by rw [dp_succ (get_lineAt (show i < c.length from h)), List.length_append, dp_len i (by omega)]; rfl
theorem fold_max_ge : ∀ (l : List Nat) (a : Nat), a ≤ l.foldl Nat.max a ∧ ∀ y ∈ l, y ≤ l.foldl Nat.max a
  | [], a => ⟨Nat.le_refl _, fun y h => by simp at h⟩
  | x :: l, a => by
    obtain ⟨h1, h2⟩ := fold_max_ge l (Nat.max a x)
    refine ⟨Nat.le_trans (Nat.le_max_left a x) h1, fun y hy => ?_⟩
    rcases List.mem_cons.mp hy with rfl | hy
    · exact Nat.le_trans (Nat.le_max_right a y) h1
    · exact h2 y hy
theorem fold_max_in : ∀ (l : List Nat) (a : Nat), l.foldl Nat.max a = a ∨ l.foldl Nat.max a ∈ l
  | [], a => .inl rfl
  | x :: l, a => by
    show l.foldl Nat.max (Nat.max a x) = a ∨ l.foldl Nat.max (Nat.max a x) ∈ x :: l
    rcases fold_max_in l (Nat.max a x) with h | h
    · rw [h]
      rcases Nat.le_total a x with q | q
      · right; rw [show Nat.max a x = x from Nat.max_eq_right q]; simp
      · left; exact Nat.max_eq_left q
    · exact .inr (List.mem_cons_of_mem _ h)
theorem fold_max_eq {l : List Nat} {m : Nat} (hm : m ∈ l) (h : ∀ y ∈ l, y ≤ m) : l.foldl Nat.max 0 = m := by
  obtain ⟨_, h2⟩ := fold_max_ge l 0
  rcases fold_max_in l 0 with q | q
  · have := h2 m hm; omega
  · have := h2 m hm; have := h _ q; omega
theorem foldl_map' (f : Nat → Nat) : ∀ (l : List Nat) (a : Nat), l.foldl (fun d i => Nat.max d (f i)) a = (l.map f).foldl Nat.max a
  | [], a => rfl
  | x :: l, a => foldl_map' f l _
theorem dp1_op {l : List Nat} {x : Line} (h : x.isOp = true) : dp1 l x = (x.uses.map fun i => l.getD i 0).foldl Nat.max 0 + 1 := by
  unfold dp1
  rw [if_pos h, foldl_map']
/-! ### lines read -/
/-- the first line of a number row -/
def rl : List Int → Option Line
  | op :: r => match op, r with
    | 0, k :: s => if k < 0 then none else some (.input k.toNat)
    | 1, n :: d :: s => if d < 1 then none else some (.num (frac n d.toNat))
    | 2, i :: j :: s => if i < 0 ∨ j < 0 then none else some (.add i.toNat j.toNat)
    | 3, i :: j :: s => if i < 0 ∨ j < 0 then none else some (.sub i.toNat j.toNat)
    | 4, i :: j :: s => if i < 0 ∨ j < 0 then none else some (.mul i.toNat j.toNat)
    | 5, i :: j :: s => if i < 0 ∨ j < 0 then none else some (.div i.toNat j.toNat)
    | 6, i :: s => if i < 0 then none else some (.neg i.toNat)
    | _, _ => none
  | [] => none
theorem rl_0 (k : Int) (s : List Int) : rl (0 :: k :: s) = if k < 0 then none else some (.input k.toNat) := rfl
theorem rl_1 (n d : Int) (s : List Int) : rl (1 :: n :: d :: s) = if d < 1 then none else some (.num (frac n d.toNat)) := rfl
theorem rl_2 (i j : Int) (s : List Int) : rl (2 :: i :: j :: s) = if i < 0 ∨ j < 0 then none else some (.add i.toNat j.toNat) := rfl
theorem rl_3 (i j : Int) (s : List Int) : rl (3 :: i :: j :: s) = if i < 0 ∨ j < 0 then none else some (.sub i.toNat j.toNat) := rfl
theorem rl_4 (i j : Int) (s : List Int) : rl (4 :: i :: j :: s) = if i < 0 ∨ j < 0 then none else some (.mul i.toNat j.toNat) := rfl
theorem rl_5 (i j : Int) (s : List Int) : rl (5 :: i :: j :: s) = if i < 0 ∨ j < 0 then none else some (.div i.toNat j.toNat) := rfl
theorem rl_6 (i : Int) (s : List Int) : rl (6 :: i :: s) = if i < 0 then none else some (.neg i.toNat) := rfl
theorem codeOf_rl (f : Nat) (op : Int) (r : List Int) : codeOf (f + 1) (op :: r) = match rl (op :: r) with
    | none => none
    | some l => (codeOf f ((op :: r).drop l.told.length)).map fun c => l :: c := by
  conv => lhs; unfold codeOf
  split
  · rename_i k s; rw [rl_0]; by_cases h : k < 0
    · rw [if_pos h, if_pos h]
    · rw [if_neg h, if_neg h]; rfl
  · rename_i n d s; rw [rl_1]; by_cases h : d < 1
    · rw [if_pos h, if_pos h]
    · rw [if_neg h, if_neg h]; rfl
  · rename_i i j s; rw [rl_2]; by_cases h : i < 0 ∨ j < 0
    · rw [if_pos h, if_pos h]
    · rw [if_neg h, if_neg h]; rfl
  · rename_i i j s; rw [rl_3]; by_cases h : i < 0 ∨ j < 0
    · rw [if_pos h, if_pos h]
    · rw [if_neg h, if_neg h]; rfl
  · rename_i i j s; rw [rl_4]; by_cases h : i < 0 ∨ j < 0
    · rw [if_pos h, if_pos h]
    · rw [if_neg h, if_neg h]; rfl
  · rename_i i j s; rw [rl_5]; by_cases h : i < 0 ∨ j < 0
    · rw [if_pos h, if_pos h]
    · rw [if_neg h, if_neg h]; rfl
  · rename_i k s; rw [rl_6]; by_cases h : k < 0
    · rw [if_pos h, if_pos h]
    · rw [if_neg h, if_neg h]; rfl
  · rename_i h0 h1 h2 h3 h4 h5 h6
    have e : rl (op :: r) = none := by
      unfold rl
      dsimp only
      split
      · exact absurd rfl (h0 _ _ rfl)
      · exact absurd rfl (h1 _ _ _ rfl)
      · exact absurd rfl (h2 _ _ _ rfl)
      · exact absurd rfl (h3 _ _ _ rfl)
      · exact absurd rfl (h4 _ _ _ rfl)
      · exact absurd rfl (h5 _ _ _ rfl)
      · exact absurd rfl (h6 _ _ rfl)
      · rfl
    rw [e]
theorem told_len (l : Line) : l.told.length = 2 ∨ l.told.length = 3 := by cases l <;> simp [Line.told]
theorem codeOf_nil (f : Nat) : codeOf f [] = some [] := by cases f <;> rfl
/-- fuel enough is enough -/
theorem codeOf_fuel : ∀ (n : Nat) (r : List Int), r.length ≤ n → ∀ f, r.length ≤ f → codeOf f r = codeOf r.length r
  | 0, r, hn, f, hf => by
    have : r = [] := List.eq_nil_of_length_eq_zero (by omega)
    subst this
    rw [codeOf_nil, codeOf_nil]
  | n + 1, [], hn, f, hf => by rw [codeOf_nil, codeOf_nil]
  | n + 1, op :: r, hn, f, hf => by
    have hn' : r.length ≤ n := by simpa using hn
    obtain ⟨f, rfl⟩ : ∃ g, f = g + 1 := ⟨f - 1, by simp at hf; omega⟩
    have hf' : r.length ≤ f := by simpa using hf
    show codeOf (f + 1) (op :: r) = codeOf (r.length + 1) (op :: r)
    rw [codeOf_rl, codeOf_rl]
    cases e : rl (op :: r) with
    | none => rfl
    | some l =>
      dsimp only
      have hd : ((op :: r).drop l.told.length).length ≤ r.length := by
        rw [List.length_drop]
        rcases told_len l with q | q <;> rw [q] <;> simp <;> omega
      rw [codeOf_fuel n _ (by omega) f (by omega), codeOf_fuel n _ (by omega) r.length (by omega)]
/-- the lines of a row -/
def co (r : List Int) : Option Code := codeOf r.length r
theorem co_nil : co [] = some [] := rfl
theorem co_cons {op : Int} {r : List Int} : co (op :: r) = match rl (op :: r) with
    | none => none
    | some l => (co ((op :: r).drop l.told.length)).map fun c => l :: c := by
  unfold co
  show codeOf (r.length + 1) (op :: r) = _
  rw [codeOf_rl]
  cases e : rl (op :: r) with
  | none => rfl
  | some l =>
    dsimp only
    have hd : ((op :: r).drop l.told.length).length ≤ r.length := by
      rw [List.length_drop]
      rcases told_len l with q | q <;> rw [q] <;> simp <;> omega
    rw [codeOf_fuel _ _ (Nat.le_refl _) r.length hd]
/-- what a line that was read looks like -/
theorem rl_told {r : List Int} {l : Line} (h : rl r = some l) : (∃ n d s, r = 1 :: n :: d :: s ∧ 1 ≤ d ∧ l = .num (frac n d.toNat)) ∨ (r.take l.told.length = l.told ∧ ∀ a, l ≠ .num a) := by
  unfold rl at h
  split at h
  · split at h <;> (try (split at h)) <;> (try (cases h)) <;> (try (simp only [Line.told]))
    · rename_i hk; right; refine ⟨?_, fun a => by simp⟩; simp; omega
    · rename_i n d s hd; left; exact ⟨n, d, s, rfl, by omega, rfl⟩
    all_goals (rename_i hk; right; refine ⟨?_, fun a => by simp⟩; simp; omega)
  · cases h
theorem rl_fit {r : List Int} {l : Line} (hb : ∀ z ∈ r, z.natAbs ≤ 10 ^ 18) (h : rl r = some l) (hk : ∀ k, l = .input k → k < ni) : FitL ni l := by
  rcases rl_told h with ⟨n, d, s, rfl, h1, rfl⟩ | ⟨_, q⟩
  · exact frac_fit (hb n (by simp)) h1 (hb d (by simp))
  · cases l with
    | num a => exact absurd rfl (q a)
    | input k => exact hk k rfl
    | _ => trivial
theorem co_fit : ∀ (n : Nat) (r : List Int) (c : Code), r.length ≤ n → (∀ z ∈ r, z.natAbs ≤ 10 ^ 18) → co r = some c → ∀ (i : Nat) (l : Line), c[i]? = some l → (∀ k, l = .input k → k < ni) → FitL ni l
  | 0, r, c, hn, hb, h, i, l, hi, hk => by
    have : r = [] := List.eq_nil_of_length_eq_zero (by omega)
    subst this
    cases h
    simp at hi
  | n + 1, [], c, hn, hb, h, i, l, hi, hk => by cases h; simp at hi
  | n + 1, op :: r, c, hn, hb, h, i, l, hi, hk => by
    rw [co_cons] at h
    cases e : rl (op :: r) with
    | none => rw [e] at h; cases h
    | some x =>
      rw [e] at h
      dsimp only at h
      cases e2 : co ((op :: r).drop x.told.length) with
      | none => rw [e2] at h; cases h
      | some c' =>
        rw [e2] at h
        cases h
        cases i with
        | zero => simp at hi; subst hi; exact rl_fit hb e hk
        | succ i =>
          refine co_fit n _ c' ?_ (fun z hz => hb z (List.mem_of_mem_drop hz)) e2 i l (by simpa using hi) hk
          rw [List.length_drop]
          have : r.length ≤ n := by simpa using hn
          rcases told_len x with q | q <;> rw [q] <;> simp <;> omega
/-! ### well -/
def okl (inputs n : Nat) (l : Line) : Bool := l.uses.all (fun i => decide (i < n)) && (match l with
    | .input k => decide (k < inputs)
    | _ => true)
theorem wellFrom_cons (inputs n : Nat) (l : Line) (r : Code) : wellFrom inputs n (l :: r) = (okl inputs n l && wellFrom inputs (n + 1) r) := rfl
theorem well_step {inputs i : Nat} {c : Code} {l : Line} (h : c[i]? = some l) : wellFrom inputs i (c.drop i) = (okl inputs i l && wellFrom inputs (i + 1) (c.drop (i + 1))) := by
  have hi := (List.getElem?_eq_some_iff.mp h).1
  rw [List.drop_eq_getElem_cons hi, wellFrom_cons, (List.getElem?_eq_some_iff.mp h).2]
theorem well_get {inputs : Nat} : ∀ {r : Code} {n i : Nat} {l : Line}, wellFrom inputs n r = true → r[i]? = some l → okl inputs (n + i) l = true
  | [], n, i, l, _, h => by simp at h
  | x :: r, n, i, l, hw, h => by
    rw [wellFrom_cons, Bool.and_eq_true] at hw
    cases i with
    | zero => simp at h; subst h; exact hw.1
    | succ i =>
      have := well_get (n := n + 1) (i := i) hw.2 (by simpa using h)
      rw [show n + (i + 1) = n + 1 + i by omega]
      exact this
theorem okl_low {inputs n : Nat} {l : Line} (h : okl inputs n l = true) : Low n l ∧ ∀ k, l = .input k → k < inputs := by
  unfold okl at h
  rw [Bool.and_eq_true] at h
  refine ⟨fun u hu => of_decide_eq_true (List.all_eq_true.mp h.1 u hu), fun k e => ?_⟩
  subst e
  exact of_decide_eq_true h.2
theorem code_ord {inputs : Nat} {r : List Int} {c : Code} (hb : ∀ z ∈ r, z.natAbs ≤ 10 ^ 18) (h : co r = some c) (hw : well inputs c = true) : Ord inputs c := by
  refine ⟨fun i l hi => ?_, fun i l hi => ?_⟩
  · have := well_get hw hi
    rw [Nat.zero_add] at this
    exact (okl_low this).1
  · have := well_get hw hi
    rw [Nat.zero_add] at this
    exact co_fit _ r c (Nat.le_refl _) hb h i l hi (okl_low this).2
theorem tolds_len (c : Code) : (VagraLine.told c).length ≤ 3 * c.length := by
  unfold VagraLine.told
  induction c with
  | nil => simp
  | cons l c ih =>
    rw [List.flatMap_cons, List.length_append, List.length_cons]
    rcases told_len l with q | q <;> omega
end SC
namespace SC
open Vagraa (Frac frac zero one isZero weight bits)
open VagraLine (Line Code codeOf well wellFrom at_)
open Vagral (Made Mode lineAt depths deepest State modeOf built small Small)
variable {ni : Nat}
/-! ### the list of calls -/
theorem calls_cons {f : Nat} {p : Int} {r : List Int} {cs : List (List (List Int))} (h : PyFlat.calls PyVagral.shape f (p :: r) = some cs) :
    ∃ f' c t cs', PyFlat.call PyVagral.shape (p :: r) = some (c, t) ∧ PyFlat.calls PyVagral.shape f' t = some cs' ∧ cs = c :: cs' := by
  cases f with
  | zero => cases h
  | succ f =>
    unfold PyFlat.calls at h
    cases e : PyFlat.call PyVagral.shape (p :: r) with
    | none => rw [e] at h; cases h
    | some x =>
      obtain ⟨c, t⟩ := x
      rw [e] at h
      dsimp only at h
      cases e2 : PyFlat.calls PyVagral.shape f t with
      | none => rw [e2] at h; cases h
      | some cs' => rw [e2] at h; cases h; exact ⟨f, c, t, cs', rfl, e2, rfl⟩
theorem calls_nil {f : Nat} {cs : List (List (List Int))} (h : PyFlat.calls PyVagral.shape f [] = some cs) : cs = [] := by
  cases f <;> (cases h; rfl)
theorem row_some {r x s : List Int} (h : PyFlat.row r = some (x, s)) : ∃ n rest, r = n :: rest ∧ 0 ≤ n ∧ n.toNat ≤ rest.length ∧ x = rest.take n.toNat ∧ s = rest.drop n.toNat := by
  cases r with
  | nil => cases h
  | cons n rest =>
    have h' : (if 0 ≤ n ∧ n.toNat ≤ rest.length then some (rest.take n.toNat, rest.drop n.toNat) else none) = some (x, s) := h
    by_cases q : 0 ≤ n ∧ n.toNat ≤ rest.length
    · rw [if_pos q] at h'; cases h'; exact ⟨n, rest, rfl, q.1, q.2, rfl, rfl⟩
    · rw [if_neg q] at h'; cases h'
/-- a call's form, by its number -/
inductive Form : Int → List Int → List (List Int) → List Int → Prop
  | code (x n : Int) (rest : List Int) : 0 ≤ n → n.toNat ≤ rest.length → Form 0 (x :: n :: rest) [[0, x], rest.take n.toNat] (rest.drop n.toNat)
  | outs (n : Int) (rest : List Int) : 0 ≤ n → n.toNat ≤ rest.length → Form 1 (n :: rest) [[1], rest.take n.toNat] (rest.drop n.toNat)
  | small (x : Int) (t : List Int) : Form 2 (x :: t) [[2, x]] t
  | map (x : Int) (t : List Int) : Form 3 (x :: t) [[3, x]] t
  | counts (x : Int) (t : List Int) : Form 4 (x :: t) [[4, x]] t
  | alike (x i j : Int) (t : List Int) : Form 5 (x :: i :: j :: t) [[5, x, i, j]] t
  | take (x : Int) (t : List Int) : Form 6 (x :: t) [[6, x]] t
  | lines (t : List Int) : Form 7 t [[7]] t
  | run (n : Int) (rest : List Int) : 0 ≤ n → n.toNat ≤ rest.length → Form 8 (n :: rest) [[8], rest.take n.toNat] (rest.drop n.toNat)
theorem call_gen {n k : Nat} {p : Int} {r : List Int} {c : List (List Int)} {t : List Int} (hs : PyVagral.shape p = some (n, k)) (h : PyFlat.call PyVagral.shape (p :: r) = some (c, t)) :
    n ≤ r.length ∧ ∃ xs, PyFlat.rows k (r.drop n) = some (xs, t) ∧ c = (p :: r.take n) :: xs := by
  unfold PyFlat.call at h
  dsimp only at h
  rw [hs] at h
  dsimp only at h
  split at h
  · cases h
  · rename_i q
    refine ⟨by omega, ?_⟩
    cases e : PyFlat.rows k (r.drop n) with
    | none => rw [e] at h; cases h
    | some x =>
      obtain ⟨xs, t'⟩ := x
      rw [e] at h
      cases h
      exact ⟨xs, rfl, rfl⟩
theorem rows_zero {r t : List Int} {xs : List (List Int)} (h : PyFlat.rows 0 r = some (xs, t)) : xs = [] ∧ t = r := by cases h; exact ⟨rfl, rfl⟩
theorem rows_one {r t : List Int} {xs : List (List Int)} (h : PyFlat.rows 1 r = some (xs, t)) : ∃ n rest, r = n :: rest ∧ 0 ≤ n ∧ n.toNat ≤ rest.length ∧ xs = [rest.take n.toNat] ∧ t = rest.drop n.toNat := by
  unfold PyFlat.rows at h
  cases e : PyFlat.row r with
  | none => rw [e] at h; cases h
  | some x =>
    obtain ⟨x, s⟩ := x
    rw [e] at h
    obtain ⟨n, rest, h1, h2, h3, h4, h5⟩ := row_some e
    cases h
    exact ⟨n, rest, h1, h2, h3, by rw [h4], h5⟩
theorem call_form {p : Int} {r : List Int} {c : List (List Int)} {t : List Int} (h : PyFlat.call PyVagral.shape (p :: r) = some (c, t)) : Form p r c t := by
  have one : ∀ {r : List Int}, 1 ≤ r.length → ∃ x s, r = x :: s := fun {r} hr => by cases r with | nil => simp at hr | cons x s => exact ⟨x, s, rfl⟩
  by_cases p0 : p = 0
  · subst p0
    obtain ⟨hl, xs, hx, rfl⟩ := call_gen (n := 1) (k := 1) rfl h
    obtain ⟨x, s, rfl⟩ := one hl
    obtain ⟨n, rest, e, h1, h2, rfl, rfl⟩ := rows_one hx
    have e' : s = n :: rest := e
    subst e'
    exact .code x n rest h1 h2
  by_cases p1 : p = 1
  · subst p1
    obtain ⟨hl, xs, hx, rfl⟩ := call_gen (n := 0) (k := 1) rfl h
    obtain ⟨n, rest, e, h1, h2, rfl, rfl⟩ := rows_one hx
    have e' : r = n :: rest := e
    subst e'
    exact .outs n rest h1 h2
  by_cases p2 : p = 2
  · subst p2
    obtain ⟨hl, xs, hx, rfl⟩ := call_gen (n := 1) (k := 0) rfl h
    obtain ⟨x, s, rfl⟩ := one hl
    obtain ⟨rfl, rfl⟩ := rows_zero hx
    exact .small x _
  by_cases p3 : p = 3
  · subst p3
    obtain ⟨hl, xs, hx, rfl⟩ := call_gen (n := 1) (k := 0) rfl h
    obtain ⟨x, s, rfl⟩ := one hl
    obtain ⟨rfl, rfl⟩ := rows_zero hx
    exact .map x _
  by_cases p4 : p = 4
  · subst p4
    obtain ⟨hl, xs, hx, rfl⟩ := call_gen (n := 1) (k := 0) rfl h
    obtain ⟨x, s, rfl⟩ := one hl
    obtain ⟨rfl, rfl⟩ := rows_zero hx
    exact .counts x _
  by_cases p5 : p = 5
  · subst p5
    obtain ⟨hl, xs, hx, rfl⟩ := call_gen (n := 3) (k := 0) rfl h
    obtain ⟨x, s, rfl⟩ := one (by omega : 1 ≤ r.length)
    obtain ⟨i, s, rfl⟩ := one (by simp at hl; omega : 1 ≤ s.length)
    obtain ⟨j, s, rfl⟩ := one (by simp at hl; omega : 1 ≤ s.length)
    obtain ⟨rfl, rfl⟩ := rows_zero hx
    exact .alike x i j _
  by_cases p6 : p = 6
  · subst p6
    obtain ⟨hl, xs, hx, rfl⟩ := call_gen (n := 1) (k := 0) rfl h
    obtain ⟨x, s, rfl⟩ := one hl
    obtain ⟨rfl, rfl⟩ := rows_zero hx
    exact .take x _
  by_cases p7 : p = 7
  · subst p7
    obtain ⟨hl, xs, hx, rfl⟩ := call_gen (n := 0) (k := 0) rfl h
    obtain ⟨rfl, rfl⟩ := rows_zero hx
    exact .lines _
  by_cases p8 : p = 8
  · subst p8
    obtain ⟨hl, xs, hx, rfl⟩ := call_gen (n := 0) (k := 1) rfl h
    obtain ⟨n, rest, e, h1, h2, rfl, rfl⟩ := rows_one hx
    have e' : r = n :: rest := e
    subst e'
    exact .run n rest h1 h2
  · exfalso
    unfold PyFlat.call at h
    dsimp only at h
    have : PyVagral.shape p = none := by
      unfold PyVagral.shape
      rw [if_neg p0, if_neg p1, if_neg p2, if_neg p3, if_neg p4, if_neg p5, if_neg p6, if_neg p7, if_neg p8]
    rw [this] at h
    cases h
theorem Form.whole {p : Int} {r t : List Int} {c : List (List Int)} (h : Form p r c t) : PyVagral.whole c = c := by cases h <;> rfl
theorem whole_all : ∀ {f : Nat} {l : List Int} {cs : List (List (List Int))}, PyFlat.calls PyVagral.shape f l = some cs → cs.map PyVagral.whole = cs := by
  intro f
  induction f with
  | zero =>
    intro l cs h
    cases l with
    | nil => cases h; rfl
    | cons p r => cases h
  | succ f ih =>
    intro l cs h
    cases l with
    | nil => cases h; rfl
    | cons p r =>
      unfold PyFlat.calls at h
      cases e : PyFlat.call PyVagral.shape (p :: r) with
      | none => rw [e] at h; cases h
      | some x =>
        obtain ⟨c, t⟩ := x
        rw [e] at h
        dsimp only at h
        cases e2 : PyFlat.calls PyVagral.shape f t with
        | none => rw [e2] at h; cases h
        | some cs' =>
          rw [e2] at h
          cases h
          rw [List.map_cons, (call_form e).whole, ih e2]
/-- the calls that are left: read off the list's rest, each asked -/
structure Rest (r : List Int) (cs : List (List (List Int))) : Prop where
  read : ∃ f, PyFlat.calls PyVagral.shape f r = some cs
  asked : ∀ c ∈ cs, VagralNeutral.asked1 c = true
theorem asked_rest {ns : List Int} (h : PyVagral.answers_asked ns = true) : ∃ cs, Rest ns cs ∧ cs.length ≤ 400 ∧ PyVagral.answers ns = PyFlat.told (PyFlat.played VagralNeutral.step VagralNeutral.start cs) := by
  unfold PyVagral.answers_asked at h
  cases e : PyFlat.calls PyVagral.shape ns.length ns with
  | none => unfold PyVagral.calls at h; rw [e] at h; cases h
  | some cs =>
    have ec : PyVagral.calls ns = some cs := by unfold PyVagral.calls; rw [e]; dsimp only; rw [whole_all e]
    rw [ec] at h
    dsimp only at h
    rw [Bool.and_eq_true] at h
    refine ⟨cs, ⟨⟨_, e⟩, fun c hc => ?_⟩, of_decide_eq_true h.1, by unfold PyVagral.answers; rw [ec]⟩
    have := h.2
    unfold VagralNeutral.asked at this
    rw [Bool.and_eq_true] at this
    exact List.all_eq_true.mp this.1 c hc
theorem Rest.cons {p : Int} {r : List Int} {cs : List (List (List Int))} (h : Rest (p :: r) cs) : ∃ c t cs', Form p r c t ∧ Rest t cs' ∧ cs = c :: cs' ∧ VagralNeutral.asked1 c = true := by
  obtain ⟨f, hf⟩ := h.read
  obtain ⟨f', c, t, cs', h1, h2, rfl⟩ := calls_cons hf
  exact ⟨c, t, cs', call_form h1, ⟨⟨f', h2⟩, fun d hd => h.asked d (List.mem_cons_of_mem _ hd)⟩, rfl, h.asked c (by simp)⟩
theorem Rest.nil {cs : List (List (List Int))} (h : Rest [] cs) : cs = [] := by
  obtain ⟨f, hf⟩ := h.read
  exact calls_nil hf
theorem whole60_le {z : Int} (h : VagralNeutral.whole60 z = true) : z.natAbs ≤ 10 ^ 18 := by
  unfold VagralNeutral.whole60 at h
  rw [Bool.and_eq_true] at h
  have h1 := of_decide_eq_true h.1
  have h2 := of_decide_eq_true h.2
  omega
/-! ### the object's state -/
structure SOk (s : State) : Prop where
  ord : Ord s.inputs s.code
  inp : s.inputs ≤ 12
  few : s.code.length ≤ 80
  outs : ∀ o ∈ s.outs, o < s.code.length
  olen : s.outs.length ≤ 12
theorem SOk.start : SOk VagralNeutral.start := ⟨Ord.nil, by decide, by decide, fun o h => by simp [VagralNeutral.start, Vagral.start] at h, by decide⟩
def md (m : Int) : Mode := ⟨decide (m.toNat % 2 = 1), decide (m.toNat / 2 % 2 = 1), decide (m.toNat / 4 % 2 = 1), decide (m.toNat / 8 % 2 = 1)⟩
theorem modeOf_ok {m : Int} (h : 0 ≤ m ∧ m ≤ 15) : modeOf m = .ok (md m) := by unfold modeOf; rw [if_pos h]; rfl
theorem modeOf_no {m : Int} (h : ¬ (0 ≤ m ∧ m ≤ 15)) : modeOf m = .error (-1) := by unfold modeOf; rw [if_neg h]
theorem built_bt {s : State} (S : SOk s) (m : Mode) : Bt s.inputs m (built m s.code) s.code.length := by
  rw [← made_all]
  exact made_ok S.ord _ (Nat.le_refl _)
theorem to_get {m : Mode} {b : Vagral.Built} {n i : Nat} (B : Bt ni m b n) (h : i < n) : b.to[i]? = some (b.to.getD i 0) ∧ b.to.getD i 0 < b.code.length := by
  have h1 : i < b.to.length := by rw [B.len]; exact h
  have e : b.to[i]? = some (b.to.getD i 0) := by rw [List.getD_eq_getElem?_getD, List.getElem?_eq_getElem h1]; rfl
  exact ⟨e, B.to i _ e⟩
/-- what is made is a code as it should be -/
structure Smk (s : State) (m : Mode) : Prop where
  ord : Ord s.inputs (s.made m).code
  few : (s.made m).code.length ≤ 80
  outs : ∀ o ∈ (s.made m).outs, o < (s.made m).code.length
  olen : (s.made m).outs.length = s.outs.length
  tlen : (s.made m).to.length = s.code.length
theorem small_ok {s : State} (S : SOk s) (m : Mode) : Smk s m := by
  have B := built_bt S m
  have ho : ∀ o ∈ s.outs, (built m s.code).to.getD o 0 < (built m s.code).code.length := fun o h => (to_get B (S.outs o h)).2
  have hf := B.few
  have hs := S.few
  by_cases hd : m.dead = true
  · have e := small_dead (outs := s.outs) B.ord hd
    unfold State.made at *
    constructor
    · show Ord s.inputs (small m s.code s.outs).code
      rw [e]; exact kl_ord B.ord
    · show (small m s.code s.outs).code.length ≤ 80
      rw [e]
      show (kl _ _ _).length ≤ 80
      rw [kl_len]
      have : rn (isN (built m s.code).code (s.outs.map fun i => (built m s.code).to.getD i 0)) (built m s.code).code.length ≤ (built m s.code).code.length := by
        unfold rn kp
        exact Nat.le_trans (List.length_filter_le _ _) (by simp)
      omega
    · show ∀ o ∈ (small m s.code s.outs).outs, o < (small m s.code s.outs).code.length
      rw [e]
      intro o h
      show o < (kl _ _ _).length
      rw [kl_len]
      obtain ⟨t, ht, rfl⟩ := List.mem_map.mp h
      obtain ⟨q, hq, hqt⟩ := List.mem_map.mp ht
      have htl : t < (built m s.code).code.length := by rw [← hqt]; exact ho q hq
      have hp : isN (built m s.code).code (s.outs.map fun i => (built m s.code).to.getD i 0) t = true := List.contains_iff_mem.mpr (needed_outs ht)
      rw [keptLines_kp, places_at htl hp]
      exact rn_lt htl hp
    · show (small m s.code s.outs).outs.length = _
      rw [e]; simp
    · show (small m s.code s.outs).to.length = _
      rw [e]; simp [B.len]
  · have e : small m s.code s.outs = ⟨(built m s.code).code, (built m s.code).to.map some, s.outs.map fun i => (built m s.code).to.getD i 0⟩ := by
      unfold small
      dsimp only
      rw [if_pos (by simpa using hd)]
    unfold State.made at *
    constructor
    · show Ord s.inputs (small m s.code s.outs).code
      rw [e]; exact B.ord
    · show (small m s.code s.outs).code.length ≤ 80
      rw [e]
      show (built m s.code).code.length ≤ 80
      omega
    · show ∀ o ∈ (small m s.code s.outs).outs, o < (small m s.code s.outs).code.length
      rw [e]
      intro o h
      obtain ⟨t, ht, rfl⟩ := List.mem_map.mp h
      exact ho t ht
    · show (small m s.code s.outs).outs.length = _
      rw [e]; simp
    · show (small m s.code s.outs).to.length = _
      rw [e]; simp [B.len]
end SC
namespace SC
open Vagraa (Frac frac zero one isZero weight bits)
open VagraLine (Line Code codeOf well wellFrom at_)
open Vagral (Made Mode lineAt depths deepest State modeOf built small Small)
variable {ni : Nat}
/-! ### a line's kind, and lines read -/
def kd : Line → Int
  | .input _ => 0
  | .num _ => 1
  | .add _ _ => 2
  | .sub _ _ => 3
  | .mul _ _ => 4
  | .div _ _ => 5
  | .neg _ => 6
def opK (k : Int) : Bool := decide (2 ≤ k) && decide (k ≤ 6)
theorem opK_kd (l : Line) : opK (kd l) = l.isOp := by cases l <;> rfl
theorem told_kd (l : Line) : ∃ r, l.told = kd l :: r := by cases l <;> exact ⟨_, rfl⟩
/-- how many numbers a line of a kind has -/
def lens : List Int := [2, 3, 3, 3, 3, 3, 2]
def len (k : Int) : Nat := if k = 0 ∨ k = 6 then 2 else 3
theorem lens_get {k : Int} (h : 0 ≤ k ∧ k ≤ 6) : lens[k.toNat]? = some (len k : Int) := by
  have : k = 0 ∨ k = 1 ∨ k = 2 ∨ k = 3 ∨ k = 4 ∨ k = 5 ∨ k = 6 := by omega
  rcases this with rfl | rfl | rfl | rfl | rfl | rfl | rfl <;> rfl
theorem len_told (l : Line) : l.told.length = len (kd l) := by cases l <;> rfl
theorem rl_bad {k : Int} {r : List Int} (h : k < 0 ∨ 7 ≤ k) : rl (k :: r) = none := by
  unfold rl
  dsimp only
  split <;> first | rfl | omega
theorem rl_short {k : Int} {r : List Int} (h : 0 ≤ k ∧ k ≤ 6) (hr : r.length < len k - 1) : rl (k :: r) = none := by
  have : k = 0 ∨ k = 1 ∨ k = 2 ∨ k = 3 ∨ k = 4 ∨ k = 5 ∨ k = 6 := by omega
  rcases this with rfl | rfl | rfl | rfl | rfl | rfl | rfl <;> (
    match r, hr with
    | [], _ => rfl
    | [_], hr => first | rfl | (simp [len] at hr)
    | _ :: _ :: _, hr => first | (simp [len] at hr; done) | (simp [len] at hr; omega))
theorem rl_num {r : List Int} (hr : ¬ r.length < 2) : ∃ n d, r.take 2 = [n, d] ∧ n ∈ r ∧ d ∈ r ∧ rl (1 :: r) = if d < 1 then none else some (.num (frac n d.toNat)) := by
  match r, hr with
  | [], hr => simp at hr
  | [_], hr => simp at hr
  | n :: d :: s, _ => exact ⟨n, d, rfl, by simp, by simp, rfl⟩
theorem rl_long {k : Int} {r : List Int} (h : 0 ≤ k ∧ k ≤ 6) (h1 : k ≠ 1) (hr : ¬ r.length < len k - 1) :
    0 < (r.take (len k - 1)).length ∧ ((∃ z ∈ r.take (len k - 1), z < 0) ∧ rl (k :: r) = none ∨ (∀ z ∈ r.take (len k - 1), 0 ≤ z) ∧ ∃ l, rl (k :: r) = some l ∧ l.told = k :: r.take (len k - 1)) := by
  have : k = 0 ∨ k = 2 ∨ k = 3 ∨ k = 4 ∨ k = 5 ∨ k = 6 := by omega
  rcases this with rfl | rfl | rfl | rfl | rfl | rfl
  · match r, hr with
    | [], hr => simp [len] at hr
    | x :: s, _ =>
      refine ⟨by simp [len], ?_⟩
      by_cases hx : x < 0
      · exact .inl ⟨⟨x, by simp [len], hx⟩, by rw [rl_0, if_pos hx]⟩
      · exact .inr ⟨fun z hz => by simp [len] at hz; omega, _, by rw [rl_0, if_neg hx], by simp [Line.told, len]; omega⟩
  · match r, hr with
    | [], hr => simp [len] at hr
    | [_], hr => simp [len] at hr
    | x :: y :: s, _ =>
      refine ⟨by simp [len], ?_⟩
      by_cases hx : x < 0 ∨ y < 0
      · refine .inl ⟨?_, by rw [rl_2, if_pos hx]⟩
        rcases hx with hx | hx
        · exact ⟨x, by simp [len], hx⟩
        · exact ⟨y, by simp [len], hx⟩
      · exact .inr ⟨fun z hz => by simp [len] at hz; omega, _, by rw [rl_2, if_neg hx], by simp [Line.told, len]; omega⟩
  · match r, hr with
    | [], hr => simp [len] at hr
    | [_], hr => simp [len] at hr
    | x :: y :: s, _ =>
      refine ⟨by simp [len], ?_⟩
      by_cases hx : x < 0 ∨ y < 0
      · refine .inl ⟨?_, by rw [rl_3, if_pos hx]⟩
        rcases hx with hx | hx
        · exact ⟨x, by simp [len], hx⟩
        · exact ⟨y, by simp [len], hx⟩
      · exact .inr ⟨fun z hz => by simp [len] at hz; omega, _, by rw [rl_3, if_neg hx], by simp [Line.told, len]; omega⟩
  · match r, hr with
    | [], hr => simp [len] at hr
    | [_], hr => simp [len] at hr
    | x :: y :: s, _ =>
      refine ⟨by simp [len], ?_⟩
      by_cases hx : x < 0 ∨ y < 0
      · refine .inl ⟨?_, by rw [rl_4, if_pos hx]⟩
        rcases hx with hx | hx
        · exact ⟨x, by simp [len], hx⟩
        · exact ⟨y, by simp [len], hx⟩
      · exact .inr ⟨fun z hz => by simp [len] at hz; omega, _, by rw [rl_4, if_neg hx], by simp [Line.told, len]; omega⟩
  · match r, hr with
    | [], hr => simp [len] at hr
    | [_], hr => simp [len] at hr
    | x :: y :: s, _ =>
      refine ⟨by simp [len], ?_⟩
      by_cases hx : x < 0 ∨ y < 0
      · refine .inl ⟨?_, by rw [rl_5, if_pos hx]⟩
        rcases hx with hx | hx
        · exact ⟨x, by simp [len], hx⟩
        · exact ⟨y, by simp [len], hx⟩
      · exact .inr ⟨fun z hz => by simp [len] at hz; omega, _, by rw [rl_5, if_neg hx], by simp [Line.told, len]; omega⟩
  · match r, hr with
    | [], hr => simp [len] at hr
    | x :: s, _ =>
      refine ⟨by simp [len], ?_⟩
      by_cases hx : x < 0
      · exact .inl ⟨⟨x, by simp [len], hx⟩, by rw [rl_6, if_pos hx]⟩
      · exact .inr ⟨fun z hz => by simp [len] at hz; omega, _, by rw [rl_6, if_neg hx], by simp [Line.told, len]; omega⟩
theorem rl_len {r : List Int} {l : Line} (h : rl r = some l) : l.told.length ≤ r.length := by
  rcases rl_told h with ⟨n, d, s, rfl, _, rfl⟩ | ⟨q, _⟩
  · simp [Line.told]
  · rw [← q, List.length_take]; omega
theorem co_step {ns : List Int} {at' : Nat} (h : at' < ns.length) : co (ns.drop at') = match rl (ns.drop at') with
    | none => none
    | some l => (co (ns.drop (at' + l.told.length))).map fun c => l :: c := by
  rw [List.drop_eq_getElem_cons h, co_cons]
  cases rl (ns[at'] :: ns.drop (at' + 1)) with
  | none => rfl
  | some l =>
    dsimp only
    rw [← List.drop_eq_getElem_cons h, List.drop_drop]
/-- a line with other numbers in the place of its lines -/
def rep (l : Line) (ns : List Int) : List Int := match l with
  | .add i j => [2, ns.getD i 0, ns.getD j 0]
  | .sub i j => [3, ns.getD i 0, ns.getD j 0]
  | .mul i j => [4, ns.getD i 0, ns.getD j 0]
  | .div i j => [5, ns.getD i 0, ns.getD j 0]
  | .neg i => [6, ns.getD i 0]
  | l => l.told
theorem rep_op {l : Line} (h : l.isOp = true) (ns : List Int) : rep l ns = kd l :: l.uses.map fun u => ns.getD u 0 := by cases l <;> first | rfl | cases h
theorem rep_no {l : Line} (h : l.isOp = false) (ns : List Int) : rep l ns = l.told := by cases l <;> first | rfl | cases h
theorem uses_no {l : Line} (h : l.isOp = false) : l.uses = [] := by cases l <;> first | rfl | cases h
theorem getD_map {ns : List Nat} {i : Nat} (h : i < ns.length) : (ns.map fun (n : Nat) => (n : Int)).getD i 0 = ((ns.getD i 0 : Nat) : Int) := by
  rw [List.getD_eq_getElem?_getD, List.getD_eq_getElem?_getD, List.getElem?_map, List.getElem?_eq_getElem h]
  rfl
theorem rep_moved {l : Line} {to : List Nat} (h : Low to.length l) : rep l (to.map fun (n : Nat) => (n : Int)) = (Vagral.moved to l).told := by
  cases l with
  | input k => rfl
  | num a => rfl
  | neg i => simp only [rep, Vagral.moved, Line.told]; rw [getD_map (h i (by simp [Line.uses]))]
  | add i j | sub i j | mul i j | div i j =>
    all_goals
    simp only [rep, Vagral.moved, Line.told]
    rw [getD_map (h i (by simp [Line.uses])), getD_map (h j (by simp [Line.uses]))]
theorem rep_num {l : Line} {P : Nat → Bool} {ns : List Int} (h : ∀ u ∈ l.uses, P u = true ∧ ns[u]? = some (num P u)) : rep l ns = (mvP P l).told := by
  have key : ∀ u ∈ l.uses, ns.getD u 0 = (rn P u : Int) := fun u hu => by
    rw [List.getD_eq_getElem?_getD, (h u hu).2]
    show num P u = _
    unfold num
    rw [if_pos (h u hu).1]
  cases l with
  | input k => rfl
  | num a => rfl
  | neg i => simp only [rep, mvP, Line.told]; rw [key i (by simp [Line.uses])]
  | add i j | sub i j | mul i j | div i j =>
    all_goals
    simp only [rep, mvP, Line.told]
    rw [key i (by simp [Line.uses]), key j (by simp [Line.uses])]
/-- what an operation on fractions is worth -/
def opv (k : Int) (vs : List Frac) : Option Frac := match vs with
  | [a, b] => if k = 2 then some (Vagraa.add a b) else if k = 3 then some (Vagraa.sub a b) else if k = 4 then some (Vagraa.mul a b) else if k = 5 then (if isZero b = true then none else some (Vagraa.div a b)) else none
  | [a] => if k = 6 then some (Vagraa.neg a) else none
  | _ => none
end SC
namespace SC
open Vagraa (Frac frac zero one isZero weight bits)
open VagraLine (Line Code codeOf well wellFrom at_)
open Vagral (Made Mode lineAt constAt isConst negOf subOf folded identity simple depths deepest State modeOf built small Small)
variable {ni : Nat}
/-- the constant of a line -/
def frl : Line → Frac
  | .num a => a
  | _ => zero
theorem kd_num {l : Line} (h : kd l = 1) : l = .num (frl l) := by cases l <;> first | rfl | (simp [kd] at h)
theorem const_kd {c : Code} {i : Nat} (h : kd (lineAt c i) = 1) : constAt c i = some (frl (lineAt c i)) := constAt_get (kd_num h)
theorem const_no {c : Code} {i : Nat} (h : ¬ kd (lineAt c i) = 1) : constAt c i = none := by
  unfold constAt
  split
  · rename_i a e; rw [e] at h; exact absurd rfl h
  · rfl
theorem fold_any {c : Code} {l : Line} (ho : l.isOp = true) (h : (l.uses.any fun u => !decide (kd (lineAt c u) = 1)) = true) : fold1 c l = none := by
  obtain ⟨u, hu, hk⟩ := List.any_eq_true.mp h
  have hk' : ¬ kd (lineAt c u) = 1 := by simpa using hk
  have hc := const_no hk'
  cases l with
  | input k => cases ho
  | num a => cases ho
  | neg i =>
    have : u = i := by simpa [Line.uses] using hu
    subst this
    simp only [fold1, hc, Option.map_none]
  | add i j | sub i j | mul i j | div i j =>
    all_goals
    have : u = i ∨ u = j := by simpa [Line.uses] using hu
    rcases this with rfl | rfl
    · simp only [fold1, hc]
    · simp only [fold1, hc]
      cases constAt c i <;> rfl
theorem fold_all {c : Code} {l : Line} (ho : l.isOp = true) (h : (l.uses.any fun u => !decide (kd (lineAt c u) = 1)) = false) : fold1 c l = opv (kd l) (l.uses.map fun u => frl (lineAt c u)) ∧ ∀ u ∈ l.uses, lineAt c u = .num (frl (lineAt c u)) := by
  have hk : ∀ u ∈ l.uses, kd (lineAt c u) = 1 := fun u hu => by
    have := List.any_eq_false.mp h u hu
    simpa using this
  refine ⟨?_, fun u hu => kd_num (hk u hu)⟩
  cases l with
  | input k => cases ho
  | num a => cases ho
  | neg i => simp only [fold1, const_kd (hk i (by simp [Line.uses]))]; rfl
  | add i j | sub i j | mul i j | div i j =>
    all_goals
    simp only [fold1, const_kd (hk i (by simp [Line.uses])), const_kd (hk j (by simp [Line.uses]))]
    rfl
/-- what folds, of a made line -/
def foldM (c : Code) : Made → Option Frac
  | .old _ => none
  | .line l => folded c l
def identM (c : Code) : Made → Option Made
  | .old _ => none
  | .line l => identity c l
theorem step_eq (m : Mode) (c : Code) (x : Made) : step m c x = match (if m.fold = true then foldM c x else none) with
    | some a => some (.line (.num a))
    | none => if m.same = true then identM c x else none := by
  cases x with
  | old i => show none = _; cases m.fold <;> cases m.same <;> rfl
  | line l => rfl
theorem folded_noop {c : Code} {l : Line} (h : l.isOp = false) : folded c l = none := by
  cases l <;> first | rfl | cases h
theorem args_op {l : Line} (h : l.isOp = true) : (2 ≤ kd l ∧ kd l ≤ 5 ∧ l.uses.length = 2) ∨ (kd l = 6 ∧ l.uses.length = 1) := by
  cases l <;> first | (cases h; done) | (simp [kd, Line.uses])
end SC
namespace SC
open Vagraa (Frac frac zero one isZero weight bits)
open VagraLine (Line Code codeOf well wellFrom at_)
open Vagral (Made Mode lineAt turned built next put simple moved Built)
/-- what put comes to: the lines, and where the line went -/
def nxt (m : Mode) (c : Code) : Made → Code × Nat
  | .old i => (c, i)
  | .line l => match (if m.share = true then c.findIdx? (fun x => decide (x = (if m.share = true then turned l else l))) else none) with
    | some i => (c, i)
    | none => (c ++ [if m.share = true then turned l else l], c.length)
theorem next_nxt (m : Mode) (b : Built) (l : Line) : next m b l = ⟨(nxt m b.code (simple m b.code 8 (moved b.to l))).1, b.to ++ [(nxt m b.code (simple m b.code 8 (moved b.to l))).2]⟩ := by
  unfold next
  cases simple m b.code 8 (moved b.to l) with
  | old i => rfl
  | line k =>
    show put m b k = _
    unfold put nxt
    dsimp only
    cases (if m.share = true then b.code.findIdx? (fun x => decide (x = (if m.share = true then turned k else k))) else none) <;> rfl
theorem find_snoc {c : Code} {k l : Line} (h : c.findIdx? (fun x => decide (x = k)) = none) : (c ++ [k]).findIdx? (fun x => decide (x = l)) = if l = k then some c.length else c.findIdx? (fun x => decide (x = l)) := by
  rw [List.findIdx?_append]
  by_cases e : l = k
  · subst e
    rw [if_pos rfl, h]
    simp [List.findIdx?_cons]
  · rw [if_neg e]
    have : ([k] : Code).findIdx? (fun x => decide (x = l)) = none := by
      simp [List.findIdx?_cons]
      exact fun q => e q.symm
    rw [this]
    cases c.findIdx? (fun x => decide (x = l)) <;> rfl
end SC
namespace SC
open Vagraa (Frac frac zero one isZero weight bits)
open VagraLine (Line Code)
open Vagral (Made Mode lineAt needed)
theorem Marks.all {nb : List Bool} {c : Code} {o : List Nat} (h : Marks nb (needed c o)) (hl : nb.length = c.length) : nb = (List.range c.length).map (isN c o) := by
  apply List.ext_getElem?
  intro i
  by_cases hi : i < c.length
  · rw [h i (by omega), List.getElem?_map, List.getElem?_range hi]
    rfl
  · rw [List.getElem?_eq_none (by omega), List.getElem?_eq_none (by simp; omega)]
open Vagral (Built built small Small optional keptLines places State)
variable {ni : Nat}
/-- the lines that the outs need -/
def PN (b : Built) (outs : List Nat) : Nat → Bool := isN b.code (outs.map fun i => b.to.getD i 0)
theorem small_code_dead {m : Mode} {c : Code} {outs : List Nat} (B : Bt ni m (built m c) c.length) (h : m.dead = true) : (small m c outs).code = kl (built m c).code (PN (built m c) outs) (built m c).code.length ∧ (small m c outs).to.map optional = (built m c).to.map (num (PN (built m c) outs)) := by
  have e := small_dead (outs := outs) B.ord h
  rw [e]
  refine ⟨rfl, ?_⟩
  show ((built m c).to.map fun i => _).map optional = _
  rw [List.map_map]
  apply List.map_congr_left
  intro t ht
  obtain ⟨i, hi⟩ := List.getElem?_of_mem ht
  exact to_num (B.to i t hi)
theorem small_code_live {m : Mode} {c : Code} {outs : List Nat} (h : ¬ m.dead = true) : (small m c outs).code = (built m c).code ∧ (small m c outs).to.map optional = (built m c).to.map (fun (n : Nat) => (n : Int)) := by
  unfold small
  dsimp only
  rw [if_pos (by simpa using h)]
  refine ⟨rfl, ?_⟩
  show ((built m c).to.map some).map optional = _
  rw [List.map_map]
  rfl
theorem small_outs {m : Mode} {c : Code} {outs : List Nat} (B : Bt ni m (built m c) c.length) (ho : ∀ o ∈ outs, o < c.length) : (small m c outs).outs.map (fun (n : Nat) => (n : Int)) = outs.map fun o => ((small m c outs).to.map optional).getD o 0 := by
  by_cases h : m.dead = true
  · rw [(small_code_dead B h).2, small_dead B.ord h]
    show ((outs.map fun i => (built m c).to.getD i 0).map fun i => _).map _ = _
    rw [List.map_map, List.map_map]
    apply List.map_congr_left
    intro o hoo
    have hg := to_get B (ho o hoo)
    show (((places _ _).getD ((built m c).to.getD o 0) 0 : Nat) : Int) = _
    rw [out_num hg.2 (List.mem_map.mpr ⟨o, hoo, rfl⟩), List.getD_eq_getElem?_getD (l := (built m c).to.map _), List.getElem?_map, hg.1]
    rfl
  · rw [(small_code_live h).2]
    unfold small
    dsimp only
    rw [if_pos (by simpa using h)]
    show (outs.map fun i => (built m c).to.getD i 0).map _ = _
    rw [List.map_map]
    apply List.map_congr_left
    intro o hoo
    have hg := to_get B (ho o hoo)
    show (((built m c).to.getD o 0 : Nat) : Int) = _
    rw [List.getD_eq_getElem?_getD (l := (built m c).to.map _), List.getElem?_map, hg.1]
    rfl
end SC
namespace SC
open Vagraa (Frac frac zero one isZero weight bits)
open VagraLine (Line Code codeOf well wellFrom at_ fracsOf runFrom run)
open Vagral (Made Mode lineAt State HEAVY)
variable {ni : Nat}
/-! ### a point read -/
theorem fracs_len : ∀ (n : Nat) (l : List Int) (fs : List Frac), l.length ≤ n → fracsOf l = some fs → l.length = 2 * fs.length
  | _, [], fs, _, h => by cases h; rfl
  | _, [_], fs, _, h => by cases h
  | 0, _ :: _ :: _, fs, hn, h => by simp at hn
  | n + 1, a :: d :: r, fs, hn, h => by
    unfold fracsOf at h
    split at h
    · cases h
    · cases e : fracsOf r with
      | none => rw [e] at h; cases h
      | some gs =>
        rw [e] at h
        cases h
        have := fracs_len n r gs (by simp at hn; omega) e
        simp; omega
/-- a point for so many inputs -/
def rp (n : Nat) (l : List Int) : Option (List Frac) := match fracsOf l with
  | some fs => if fs.length = n then some fs else none
  | none => none
theorem fracs_rp (n : Nat) (l : List Int) : Vagral.fracs n l = match rp n l with
    | some fs => .ok fs
    | none => .error (-2) := by
  unfold Vagral.fracs rp
  cases fracsOf l with
  | none => rfl
  | some fs =>
    dsimp only
    by_cases h : fs.length = n
    · rw [if_pos h, if_pos h]
    · rw [if_neg h, if_neg h]
theorem rp_bad {n : Nat} {l : List Int} (h : l.length ≠ 2 * n) : rp n l = none := by
  unfold rp
  cases e : fracsOf l with
  | none => rfl
  | some fs =>
    dsimp only
    refine if_neg fun q => h ?_
    rw [fracs_len _ l fs (Nat.le_refl _) e, q]
theorem rp_good {n : Nat} {l : List Int} (h : l.length = 2 * n) : rp n l = fracsOf l := by
  unfold rp
  cases e : fracsOf l with
  | none => rfl
  | some fs =>
    dsimp only
    refine if_pos ?_
    have := fracs_len _ l fs (Nat.le_refl _) e
    omega
theorem fracs_step {l : List Int} {i : Nat} (h : 2 * i + 1 < l.length) : fracsOf (l.drop (2 * i)) = if l[2 * i + 1] < 1 then none else (fracsOf (l.drop (2 * (i + 1)))).map fun r => frac (l[2 * i]) (l[2 * i + 1]).toNat :: r := by
  rw [List.drop_eq_getElem_cons (show 2 * i < l.length by omega), List.drop_eq_getElem_cons h]
  rfl
theorem fracs_fit : ∀ (n : Nat) (l : List Int) (fs : List Frac), l.length ≤ n → (∀ z ∈ l, z.natAbs ≤ 10 ^ 18) → fracsOf l = some fs → ∀ f ∈ fs, Fit f
  | _, [], fs, _, _, h => by cases h; simp
  | _, [_], fs, _, _, h => by cases h
  | 0, _ :: _ :: _, fs, hn, _, h => by simp at hn
  | n + 1, a :: d :: r, fs, hn, hb, h => by
    unfold fracsOf at h
    split at h
    · cases h
    · rename_i hd
      cases e : fracsOf r with
      | none => rw [e] at h; cases h
      | some gs =>
        rw [e] at h
        cases h
        intro f hf
        rcases List.mem_cons.mp hf with rfl | hf
        · exact frac_fit (hb a (by simp)) (by omega) (hb d (by simp))
        · exact fracs_fit n r gs (by simp at hn; omega) (fun z hz => hb z (by simp [hz])) e f hf
theorem rp_fit {n : Nat} {l : List Int} {fs : List Frac} (hb : ∀ z ∈ l, z.natAbs ≤ 10 ^ 18) (h : rp n l = some fs) : fs.length = n ∧ ∀ f ∈ fs, Fit f := by
  unfold rp at h
  cases e : fracsOf l with
  | none => rw [e] at h; cases h
  | some gs =>
    rw [e] at h
    dsimp only at h
    split at h
    · rename_i q; cases h; exact ⟨q, fracs_fit _ l _ (Nat.le_refl _) hb e⟩
    · cases h
/-! ### a line's value -/
theorem value_op {ps vs : List Frac} {l : Line} (h : l.isOp = true) : l.value ps vs = opv (kd l) (l.uses.map (at_ vs)) := by cases l <;> first | rfl | cases h
theorem value_den {ps vs : List Frac} {l : Line} {a : Frac} (hp : ∀ f ∈ ps, Fit f) (hv : ∀ f ∈ vs, Fit f) (hl : Low vs.length l) (hf : FitL ps.length l) (h : l.value ps vs = some a) : 1 ≤ a.den := by
  have g : ∀ {i : Nat}, i < vs.length → Fit (at_ vs i) := fun {i} hi => by
    unfold at_
    rw [List.getD_eq_getElem?_getD, List.getElem?_eq_getElem hi]
    exact hv _ (List.getElem_mem hi)
  cases l with
  | input k =>
    have hk : k < ps.length := hf
    cases h
    unfold at_
    rw [List.getD_eq_getElem?_getD, List.getElem?_eq_getElem hk]
    exact (hp _ (List.getElem_mem hk)).1
  | num b => cases h; exact hf.1
  | neg i => cases h; exact (g (hl i (by simp [Line.uses]))).1
  | add i j => cases h; exact add_den (g (hl i (by simp [Line.uses]))).1 (g (hl j (by simp [Line.uses]))).1
  | sub i j => cases h; exact add_den (g (hl i (by simp [Line.uses]))).1 (g (hl j (by simp [Line.uses]))).1
  | mul i j => cases h; exact mul_den (g (hl i (by simp [Line.uses]))).1 (g (hl j (by simp [Line.uses]))).1
  | div i j =>
    simp only [Line.value] at h
    split at h
    · cases h
    · rename_i z
      cases h
      exact div_den (g (hl i (by simp [Line.uses]))).1 (fun q => z (decide_eq_true q))
theorem run_step {ps vs : List Frac} {c : Code} {i : Nat} {l : Line} (h : c[i]? = some l) : runFrom (some HEAVY) ps vs (c.drop i) = match l.value ps vs with
    | none => .error ⟨vs.length, 1⟩
    | some a => if 200 < weight a then .error ⟨vs.length, 2⟩ else runFrom (some HEAVY) ps (vs ++ [a]) (c.drop (i + 1)) := by
  have hi := (List.getElem?_eq_some_iff.mp h).1
  rw [List.drop_eq_getElem_cons hi, (List.getElem?_eq_some_iff.mp h).2]
  conv => lhs; unfold runFrom
  cases l.value ps vs with
  | none => rfl
  | some a =>
    show (if decide (HEAVY < weight a) = true then _ else _) = _
    by_cases q : 200 < weight a
    · rw [if_pos (decide_eq_true (show HEAVY < weight a from q))]
      exact (if_pos q).symm
    · rw [if_neg (show ¬ decide (HEAVY < weight a) = true from fun z => q (of_decide_eq_true z))]
      exact (if_neg q).symm
end SC
namespace SC
open Vagraa (Frac frac zero one isZero weight bits)
open VagraLine (Line Code codeOf well wellFrom at_ fracsOf runFrom run fracsTold)
open Vagral (Made Mode lineAt State HEAVY Call outcome modeOf small Small built optional)
def res (s : State) (c : Call) : State × List Int := ((Vagral.step s c).1, VagralNeutral.encode (Vagral.step s c).2)
theorem res_err {s : State} {c : Call} {n : Int} (h : outcome s c = .error n) : res s c = (s, [n]) := by unfold res Vagral.step; rw [h]; rfl
theorem res_ok {s u : State} {c : Call} {l : List Int} (h : outcome s c = .ok (u, l)) : res s c = (u, l) := by unfold res Vagral.step; rw [h]; rfl
/-! code -/
theorem code_1 {s : State} {n : Int} {l : List Int} (h : ¬ (0 ≤ n ∧ n ≤ 12)) : res s (.code n l) = (s, [-1]) := res_err (by
  unfold outcome; dsimp only; rw [if_pos (by show n < 0 ∨ (12 : Int) < n; omega)])
theorem code_rest {s : State} {n : Int} {l : List Int} (h : 0 ≤ n ∧ n ≤ 12) : outcome s (.code n l) = match co l with
    | none => .error (-2)
    | some c => if 80 < c.length then .error (-7) else if well n.toNat c = false then .error (-3) else .ok (⟨n.toNat, c, if c = [] then [] else [c.length - 1]⟩, [(c.length : Int)]) := by
  unfold outcome; dsimp only
  rw [if_neg (by show ¬ (n < 0 ∨ (12 : Int) < n); omega)]
  rfl
theorem code_2 {s : State} {n : Int} {l : List Int} (h : 0 ≤ n ∧ n ≤ 12) (e : co l = none) : res s (.code n l) = (s, [-2]) := res_err (by rw [code_rest h, e])
theorem code_7 {s : State} {n : Int} {l : List Int} {c : Code} (h : 0 ≤ n ∧ n ≤ 12) (e : co l = some c) (h8 : 80 < c.length) : res s (.code n l) = (s, [-7]) := res_err (by rw [code_rest h, e]; exact if_pos h8)
theorem code_3 {s : State} {n : Int} {l : List Int} {c : Code} (h : 0 ≤ n ∧ n ≤ 12) (e : co l = some c) (h8 : ¬ 80 < c.length) (hw : well n.toNat c = false) : res s (.code n l) = (s, [-3]) := res_err (by
  rw [code_rest h, e]; dsimp only; rw [if_neg h8, if_pos hw])
theorem code_ok {s : State} {n : Int} {l : List Int} {c : Code} (h : 0 ≤ n ∧ n ≤ 12) (e : co l = some c) (h8 : ¬ 80 < c.length) (hw : ¬ well n.toNat c = false) : res s (.code n l) = (⟨n.toNat, c, if c = [] then [] else [c.length - 1]⟩, [(c.length : Int)]) := res_ok (by
  rw [code_rest h, e]; dsimp only; rw [if_neg h8, if_neg hw])
/-! outs -/
theorem outs_bad {s : State} {l : List Int} (h : ¬ ((l.all fun i => decide (0 ≤ i) && decide (i < s.code.length)) = true ∧ l.length ≤ 12)) : res s (.outs l) = (s, [-2]) := res_err (by
  unfold outcome State.lines Vagral.MOSTOUTS; dsimp only; rw [if_neg h]; rfl)
theorem outs_ok {s : State} {l : List Int} (h : (l.all fun i => decide (0 ≤ i) && decide (i < s.code.length)) = true ∧ l.length ≤ 12) : res s (.outs l) = ({ s with outs := l.map Int.toNat }, [(l.length : Int)]) := res_ok (by
  unfold outcome State.lines Vagral.MOSTOUTS; dsimp only; rw [if_pos h]
  show Except.ok (_, [((l.map Int.toNat).length : Int)]) = _
  rw [List.length_map])
/-! modes -/
theorem small_bad {s : State} {m : Int} (h : ¬ (0 ≤ m ∧ m ≤ 15)) : res s (.small m) = (s, [-1]) := res_err (by unfold outcome State.asked; dsimp only; rw [modeOf_no h]; rfl)
theorem map_bad {s : State} {m : Int} (h : ¬ (0 ≤ m ∧ m ≤ 15)) : res s (.map m) = (s, [-1]) := res_err (by unfold outcome State.asked; dsimp only; rw [modeOf_no h]; rfl)
theorem counts_bad {s : State} {m : Int} (h : ¬ (0 ≤ m ∧ m ≤ 15)) : res s (.counts m) = (s, [-1]) := res_err (by unfold outcome State.asked; dsimp only; rw [modeOf_no h]; rfl)
theorem take_bad {s : State} {m : Int} (h : ¬ (0 ≤ m ∧ m ≤ 15)) : res s (.take m) = (s, [-1]) := res_err (by unfold outcome; dsimp only; rw [modeOf_no h]; rfl)
theorem small_ok' {s : State} {m : Int} (h : 0 ≤ m ∧ m ≤ 15) : res s (.small m) = (s, ((s.made (md m)).code.length : Int) :: VagraLine.told (s.made (md m)).code ++ Vagral.listed (s.made (md m)).outs) := res_ok (by unfold outcome State.asked; dsimp only; rw [modeOf_ok h]; rfl)
theorem map_ok {s : State} {m : Int} (h : 0 ≤ m ∧ m ≤ 15) : res s (.map m) = (s, ((s.made (md m)).to.length : Int) :: (s.made (md m)).to.map optional) := res_ok (by unfold outcome State.asked; dsimp only; rw [modeOf_ok h]; rfl)
theorem counts_ok {s : State} {m : Int} (h : 0 ≤ m ∧ m ≤ 15) : res s (.counts m) = (s, [(s.code.length : Int), (VagraLine.ops s.code : Int), (Vagral.deepest s.code : Int), ((s.made (md m)).code.length : Int), (VagraLine.ops (s.made (md m)).code : Int), (Vagral.deepest (s.made (md m)).code : Int)]) := res_ok (by unfold outcome State.asked; dsimp only; rw [modeOf_ok h]; rfl)
theorem take_ok {s : State} {m : Int} (h : 0 ≤ m ∧ m ≤ 15) : res s (.take m) = (⟨s.inputs, (s.made (md m)).code, (s.made (md m)).outs⟩, [((s.made (md m)).code.length : Int)]) := res_ok (by unfold outcome; dsimp only; rw [modeOf_ok h]; rfl)
/-! alike, lines, run -/
theorem alike_bad {s : State} {m i j : Int} (h : ¬ ((0 ≤ m ∧ m ≤ 15) ∧ (0 ≤ i ∧ i < s.code.length) ∧ (0 ≤ j ∧ j < s.code.length))) : res s (.alike m i j) = (s, [-1]) := res_err (by
  unfold outcome State.asked; dsimp only
  by_cases h1 : 0 ≤ m ∧ m ≤ 15
  · rw [modeOf_ok h1]
    unfold State.line
    by_cases h2 : 0 ≤ i ∧ i < s.code.length
    · rw [if_pos h2]
      by_cases h3 : 0 ≤ j ∧ j < s.code.length
      · exact absurd ⟨h1, h2, h3⟩ h
      · rw [if_neg h3]; rfl
    · rw [if_neg h2]; rfl
  · rw [modeOf_no h1]; rfl)
theorem alike_ok {s : State} {m i j : Int} (h1 : 0 ≤ m ∧ m ≤ 15) (h2 : 0 ≤ i ∧ i < s.code.length) (h3 : 0 ≤ j ∧ j < s.code.length) : res s (.alike m i j) = (s, [if (built (md m) s.code).to.getD i.toNat 0 = (built (md m) s.code).to.getD j.toNat 0 then 1 else 0]) := res_ok (by
  unfold outcome State.asked State.line; dsimp only
  rw [modeOf_ok h1, if_pos h2, if_pos h3]; rfl)
theorem lines_ok (s : State) : res s .lines = (s, (s.code.length : Int) :: VagraLine.told s.code ++ Vagral.listed s.outs) := res_ok rfl
theorem run_bad {s : State} {l : List Int} (h : rp s.inputs l = none) : res s (.run l) = (s, [-2]) := res_err (by unfold outcome State.asked; dsimp only; rw [fracs_rp, h]; rfl)
theorem run_ok {s : State} {l : List Int} {p : List Frac} (h : rp s.inputs l = some p) : res s (.run l) = (s, s.ran p) := res_ok (by unfold outcome State.asked; dsimp only; rw [fracs_rp, h]; rfl)
/-! the state stays as it should be -/
theorem res_sok {s : State} {c : Call} (S : SOk s) (hb : ∀ n l, c = .code n l → ∀ z ∈ l, z.natAbs ≤ 10 ^ 18) : SOk (res s c).1 := by
  cases c with
  | code n l =>
    by_cases h : 0 ≤ n ∧ n ≤ 12
    · cases e : co l with
      | none => rw [code_2 h e]; exact S
      | some c =>
        by_cases h8 : 80 < c.length
        · rw [code_7 h e h8]; exact S
        · by_cases hw : well n.toNat c = false
          · rw [code_3 h e h8 hw]; exact S
          · rw [code_ok h e h8 hw]
            refine ⟨code_ord (hb n l rfl) e (by simpa using hw), by show n.toNat ≤ 12; omega, by show c.length ≤ 80; omega, ?_, ?_⟩
            · show ∀ o ∈ (if c = [] then [] else [c.length - 1]), o < c.length
              intro o ho
              by_cases hc : c = []
              · rw [if_pos hc] at ho; simp at ho
              · rw [if_neg hc] at ho
                have : 0 < c.length := List.length_pos_iff.mpr hc
                simp at ho; omega
            · show (if c = [] then [] else [c.length - 1]).length ≤ 12
              split <;> simp
    · rw [code_1 h]; exact S
  | outs l =>
    by_cases h : (l.all fun i => decide (0 ≤ i) && decide (i < s.code.length)) = true ∧ l.length ≤ 12
    · rw [outs_ok h]
      refine ⟨S.ord, S.inp, S.few, fun o ho => ?_, by show (l.map Int.toNat).length ≤ 12; rw [List.length_map]; exact h.2⟩
      obtain ⟨z, hz, rfl⟩ := List.mem_map.mp ho
      have := List.all_eq_true.mp h.1 z hz
      rw [Bool.and_eq_true] at this
      have h1 := of_decide_eq_true this.1
      have h2 := of_decide_eq_true this.2
      show z.toNat < s.code.length
      omega
    · rw [outs_bad h]; exact S
  | small m =>
    by_cases h : 0 ≤ m ∧ m ≤ 15
    · rw [small_ok' h]; exact S
    · rw [small_bad h]; exact S
  | map m =>
    by_cases h : 0 ≤ m ∧ m ≤ 15
    · rw [map_ok h]; exact S
    · rw [map_bad h]; exact S
  | counts m =>
    by_cases h : 0 ≤ m ∧ m ≤ 15
    · rw [counts_ok h]; exact S
    · rw [counts_bad h]; exact S
  | alike m i j =>
    by_cases h : (0 ≤ m ∧ m ≤ 15) ∧ (0 ≤ i ∧ i < s.code.length) ∧ (0 ≤ j ∧ j < s.code.length)
    · rw [alike_ok h.1 h.2.1 h.2.2]; exact S
    · rw [alike_bad h]; exact S
  | take m =>
    by_cases h : 0 ≤ m ∧ m ≤ 15
    · rw [take_ok h]
      have M := small_ok S (md m)
      exact ⟨M.ord, S.inp, M.few, M.outs, by show (s.made (md m)).outs.length ≤ 12; rw [M.olen]; exact S.olen⟩
    · rw [take_bad h]; exact S
  | lines => rw [lines_ok]; exact S
  | run l =>
    cases e : rp s.inputs l with
    | none => rw [run_bad e]; exact S
    | some p => rw [run_ok e]; exact S
end SC
namespace SC
open Vagraa (Frac frac zero one isZero weight bits)
open VagraLine (Line Code codeOf well wellFrom at_ fracsOf runFrom run fracsTold)
open Vagral (Made Mode lineAt State HEAVY Call outcome modeOf small Small built optional)
theorem ftold_len (fs : List Frac) : (fracsTold fs).length = 2 * fs.length := by
  unfold fracsTold
  induction fs with
  | nil => rfl
  | cons f fs ih => rw [List.flatMap_cons, List.length_append, ih]; simp; omega
theorem listed_len (l : List Nat) : (Vagral.listed l).length = l.length + 1 := by unfold Vagral.listed; simp
theorem res_len {s : State} {c : Call} (S : SOk s) : (res s c).2.length ≤ 600 := by
  have one : ∀ z : Int, ([z] : List Int).length ≤ 600 := fun z => by simp
  have hf := S.few
  have ho := S.olen
  cases c with
  | code n l =>
    by_cases h : 0 ≤ n ∧ n ≤ 12
    · cases e : co l with
      | none => rw [code_2 h e]; exact one _
      | some c =>
        by_cases h8 : 80 < c.length
        · rw [code_7 h e h8]; exact one _
        · by_cases hw : well n.toNat c = false
          · rw [code_3 h e h8 hw]; exact one _
          · rw [code_ok h e h8 hw]; exact one _
    · rw [code_1 h]; exact one _
  | outs l =>
    by_cases h : (l.all fun i => decide (0 ≤ i) && decide (i < s.code.length)) = true ∧ l.length ≤ 12
    · rw [outs_ok h]; exact one _
    · rw [outs_bad h]; exact one _
  | small m =>
    by_cases h : 0 ≤ m ∧ m ≤ 15
    · rw [small_ok' h]
      have M := small_ok S (md m)
      have h1 := tolds_len (s.made (md m)).code
      have h2 := listed_len (s.made (md m)).outs
      have h3 := M.few
      have h4 := M.olen
      show (_ :: VagraLine.told (s.made (md m)).code ++ Vagral.listed (s.made (md m)).outs).length ≤ 600
      rw [List.length_append, List.length_cons]
      omega
    · rw [small_bad h]; exact one _
  | map m =>
    by_cases h : 0 ≤ m ∧ m ≤ 15
    · rw [map_ok h]
      have := (small_ok S (md m)).tlen
      show (_ :: (s.made (md m)).to.map optional).length ≤ 600
      rw [List.length_cons, List.length_map]
      omega
    · rw [map_bad h]; exact one _
  | counts m =>
    by_cases h : 0 ≤ m ∧ m ≤ 15
    · rw [counts_ok h]; simp
    · rw [counts_bad h]; exact one _
  | alike m i j =>
    by_cases h : (0 ≤ m ∧ m ≤ 15) ∧ (0 ≤ i ∧ i < s.code.length) ∧ (0 ≤ j ∧ j < s.code.length)
    · rw [alike_ok h.1 h.2.1 h.2.2]; exact one _
    · rw [alike_bad h]; exact one _
  | take m =>
    by_cases h : 0 ≤ m ∧ m ≤ 15
    · rw [take_ok h]; exact one _
    · rw [take_bad h]; exact one _
  | lines =>
    rw [lines_ok]
    have h1 := tolds_len s.code
    have h2 := listed_len s.outs
    show (_ :: VagraLine.told s.code ++ Vagral.listed s.outs).length ≤ 600
    rw [List.length_append, List.length_cons]
    omega
  | run l =>
    cases e : rp s.inputs l with
    | none => rw [run_bad e]; exact one _
    | some p =>
      rw [run_ok e]
      show (s.ran p).length ≤ 600
      unfold State.ran
      cases run (some HEAVY) p s.code with
      | ok vs =>
        show (_ :: _ :: fracsTold (s.outs.map fun i => at_ vs i)).length ≤ 600
        rw [List.length_cons, List.length_cons, ftold_len, List.length_map]
        omega
      | error e => simp
theorem step_res {s : State} {p : Int} {r t : List Int} {c : List (List Int)} (h : Form p r c t) : ∃ k, VagralNeutral.callOf c = some k ∧ VagralNeutral.step s c = res s k := by
  cases h with
  | code x n rest _ _ => exact ⟨.code x (rest.take n.toNat), rfl, rfl⟩
  | outs n rest _ _ => exact ⟨.outs (rest.take n.toNat), rfl, rfl⟩
  | small x _ => exact ⟨.small x, rfl, rfl⟩
  | map x _ => exact ⟨.map x, rfl, rfl⟩
  | counts x _ => exact ⟨.counts x, rfl, rfl⟩
  | alike x i j _ => exact ⟨.alike x i j, rfl, rfl⟩
  | take x _ => exact ⟨.take x, rfl, rfl⟩
  | lines _ => exact ⟨.lines, rfl, rfl⟩
  | run n rest _ _ => exact ⟨.run (rest.take n.toNat), rfl, rfl⟩
theorem step_sok {s : State} {p : Int} {r t : List Int} {c : List (List Int)} (S : SOk s) (h : Form p r c t) (ha : VagralNeutral.asked1 c = true) : SOk (VagralNeutral.step s c).1 ∧ (VagralNeutral.step s c).2.length ≤ 600 := by
  have hb : ∀ k, VagralNeutral.callOf c = some k → ∀ n l, k = .code n l → ∀ z ∈ l, z.natAbs ≤ 10 ^ 18 := by
    intro k hk n l e
    subst e
    cases h with
    | code x n' rest _ _ =>
      have hk' : some (Call.code x (rest.take n'.toNat)) = some (Call.code n l) := hk
      have ha' : (VagralNeutral.whole60 x && ((rest.take n'.toNat).all (fun (z : Int) => VagralNeutral.whole60 z) && decide ((rest.take n'.toNat).length ≤ 400))) = true := ha
      rw [Bool.and_eq_true, Bool.and_eq_true] at ha'
      cases hk'
      exact fun z hz => whole60_le (List.all_eq_true.mp ha'.2.1 z hz)
    | _ => cases hk
  obtain ⟨k, hk, e⟩ := step_res (s := s) h
  rw [e]
  exact ⟨res_sok S (hb k hk), res_len S⟩
theorem told_cons (a : List Int) (l : List (List Int)) : PyFlat.told (a :: l) = ((a.length : Int) :: a) ++ PyFlat.told l := by
  unfold PyFlat.told
  rw [List.flatMap_cons]
end SC
set_option maxHeartbeats 2000000
/-! More rules over the layer: large products and quotients, bit_length, extend by a tuple, max with a default. -/
namespace L2
open PySem PySem.Spec PyProof.Rows
section
variable {X : Cx}
def CMulB (i j : Int) : Prop := i.natAbs < 2 ^ 1000 ∧ j.natAbs < 2 ^ 1000
def CDivB (_ j : Int) : Prop := j ≠ 0 ∧ j.natAbs < 2 ^ 1000
theorem log_big {n : Nat} (h : n < 2 ^ 1000) : n.log2 < 1000 := by
  by_cases h0 : n = 0
  · subst h0; decide
  · exact (Nat.log2_lt h0).mpr h
theorem bits_int (i : Int) : Builtin.Int.intBits i = Vagraa.bits i.natAbs := by
  unfold Builtin.Int.intBits Vagraa.bits
  by_cases h : i = 0
  · subst h; rfl
  · have h' : i.natAbs ≠ 0 := by omega
    simp [h, h']
theorem bitsB {i : Int} (h : i.natAbs < 2 ^ 1000) : Builtin.Int.intBits i ≤ 2 ^ 20 := by
  rw [bits_int]
  exact Nat.le_trans (SC.bits_le h) (by decide)
theorem op_mulB : OpR X (binaryOp .Mult) (rI CMulB fun i j => .int (i * j)) :=
  opI fun _ _ _ _ _ _ _ hc q => mul_int q (IntMulOk.of_bits (bitsB hc.1) (bitsB hc.2))
theorem op_fdivB : OpR X (binaryOp .FloorDiv) (rI CDivB fun i j => .int (i.fdiv j)) :=
  opI fun _ _ _ _ _ _ _ hc q => floordiv_int hc.1 q (.inl (PyProof.noPylong_of_log2 (Nat.lt_of_lt_of_le (log_big hc.2) (by decide))))
def rBits : V → List V → Hp → VK → Prop := fun x xs H Q => ∃ i, x = .int i ∧ xs = [] ∧ Q (.int (Vagraa.bits i.natAbs)) H
theorem mt_bits : MtR X "int.bit_length" rBits := by
  intro pins s σ H x xs v us Q I rx rs h
  obtain ⟨i, rfl, rfl, q⟩ := h
  obtain ⟨t, rfl⟩ := rx
  cases rs
  exact call_int_bit_length ⟨.int _, H, I.tok _, ⟨_, by rw [bits_int]⟩, q⟩
/-! ### xs.extend(t), t a tuple -/
def rExtT (K : PySem.W.Frag) : V → List V → Hp → VK → Prop := fun x vs H Q => ∃ l b xs zs, x = .ref l ∧ vs = [.ref b] ∧ H l = some (.lst xs) ∧ SqT K H b zs ∧ xs.length + zs.length ≤ sizeLine ∧ Q .non (upd H l (.lst (xs ++ zs)))
theorem mt_extT : MtR X "list.extend" (rExtT X.K) := by
  intro pins s σ H x vs v us Q I rx rv h
  obtain ⟨l, b, xs, zs, rfl, rfl, hH, hB, hz, q⟩ := h
  cases rx
  obtain ⟨u, rfl, ru⟩ := rv.one
  cases ru
  obtain ⟨z, its, n, r, hl, e⟩ := I.lstM hH
  obtain ⟨its2, r2, ⟨o, ho, hc, n2, hd⟩, z2⟩ := I.tuple hB
  have hl2 := r2.length
  refine wpAny_call_entry F.slot_list_extend ⟨_, e, rfl⟩ F.entry_list_extend ?_ (F.args_list_extend_2 _ _)
  show wpAny _ _ (Builtin.List.listExtendWith (.ref l) (.ref b) .none) _ _ s
  unfold Builtin.List.listExtendWith
  refine wpAny_bind (wpAny_typeOf ⟨o, ho, hc⟩ ?_)
  have h1 : (Builtin.List.listSameRef (.ref l) (.ref b) || Value.type "tuple" == Value.type "list" || Value.type "tuple" == Value.type "tuple") = true := by simp
  rw [if_pos h1]
  unfold Builtin.List.listItems
  refine wpAny_bind (wpAny_bind (wpAny_seqItems ho hd (wpAny_pure ?_)))
  refine wpAny_bind (wpAny_bind (wpAny_seqItems e rfl (wpAny_pure ?_)))
  have hsz : its.toArray.size + its2.toArray.size ≤ sizeLine := by rw [List.size_toArray, List.size_toArray]; omega
  have hlong : (!its.toArray.isEmpty && Builtin.List.listTooLong (its.toArray.size + its2.toArray.size)) = false := by rw [notLongL hsz, Bool.and_false]
  show wpAny _ _ (if (!its.toArray.isEmpty && Builtin.List.listTooLong (its.toArray.size + its2.toArray.size)) = true then _ else _) _ _ s
  rw [hlong, if_neg Bool.false_ne_true]
  show wpAny _ _ (updateSeq l (fun y => y ++ its2.toArray) >>= fun _ => ret .none) _ _ s
  refine wpAny_bind (wpAny_updateSeq e rfl ?_ (by rw [List.size_toArray]; omega) (by rw [Array.size_append]; omega))
  refine wpAny_pure ⟨_, rfl, .non, _, I.lset (its' := its ++ its2) hH e (by simp) (r.append r2) ?_, rfl, q⟩
  rw [List.length_append]
  omega
end
/-! ### max(xs, default=d) -/
theorem args_maxD (a d : Value) : argsOk "max" ⟨[a], [(Str.ofString "default", d)]⟩ := by unfold argsOk; kernel_rfl
section
variable {prog : Program} {w : World} {A : Around} {E : Value → Shared → Prop} {I : Addr} {fp wr : List Addr} {n : Nat} {G : Nat → Value → Prop} {St : Nat → Heap → Prop} {Rz : Result → Shared → Prop} {kw : List (Str × Value)}
theorem maxD_turns (W : Walks prog w A.in1 I fp wr n G St) (bt : Nat → Nat → Bool) (cmp : CmpOf prog w A.in1 .Gt G bt) (best : Addr) (apart : best ∉ fp) :
    ∀ (left i : Nat) (s : Shared) (vb : Value) (cap : Nat), n - (i + 1) = left → i + 1 ≤ n → St (i + 1) s.heap → G (argBest bt i) vb →
      s.heap.get? best = some { cls := .type "list", dict := none, data := .seq #[vb, vb] cap, slots := #[] } →
      (∀ v h' tk, G (argBest bt (n - 1)) v → (∀ b o, b ∉ wr → b ≠ best → s.heap.get? b = some o → h'.get? b = some o) → Rz (.ok (.ret v)) { s with heap := h', toks := tk }) →
      codeAny (model prog w) A (.builtin "max.loop" ⟨[.ref I, .none, .ref best], kw⟩) Rz s := by
  have bw : best ∉ wr := fun h => apart (W.sub _ h)
  have nm : (toString "max" ++ toString ".loop" : String) = "max.loop" := by decide
  intro left
  induction left with
  | zero =>
    intro i s vb cap hk hi st gb hb fin
    have e : i + 1 = n := by omega
    refine codeAny_builtin F.entry_max_loop ?_
    rw [Around.under_plainId F.plain_max_loop _]
    show wpAny _ A.in1 (seqItems? (.ref best) >>= _) _ _ s
    refine wpAny_bind (wpAny_seqItems hb rfl ?_)
    show wpAny _ A.in1 (tryCatch (pyNext (.ref I)) _ >>= _) _ _ s
    refine wpAny_bind (wpAny_tryCatch (W.done s _ _ (e ▸ st) fun h' tk kp => ?_))
    have hb' := kp best _ bw hb
    show wpAny _ A.in1 (updateSeq best (fun _ => #[]) >>= _) _ _ _
    refine wpAny_bind (wpAny_updateSeq hb' rfl (wpAny_bind (wpAny_letGo (wpAny_pure ?_))))
    exact fin vb _ tk (by rw [← e]; exact gb) fun b o h1 h2 q => (Heap.get?_update_other _ _ (Ne.symm h2)).trans (kp b o h1 q)
  | succ left ih =>
    intro i s vb cap hk hi st gb hb fin
    have lt : i + 1 < n := by omega
    refine codeAny_builtin F.entry_max_loop ?_
    rw [Around.under_plainId F.plain_max_loop _]
    show wpAny _ A.in1 (seqItems? (.ref best) >>= _) _ _ s
    refine wpAny_bind (wpAny_seqItems hb rfl ?_)
    show wpAny _ A.in1 (tryCatch (pyNext (.ref I)) _ >>= _) _ _ s
    refine wpAny_bind (wpAny_tryCatch (W.item (i + 1) s _ _ lt st fun v h' tk gv st' kp => ?_))
    have hb' := kp best _ bw hb
    show wpAny _ A.in1 (tryCatch (holding [v, v] (richCompare .Gt v vb >>= _)) _ >>= _) _ _ _
    refine wpAny_bind (wpAny_tryCatch (wpAny_holding (wpAny_bind (cmp (i + 1) (argBest bt i) v vb _ _ _ gv gb ?_))))
    refine wpAny_bind (wpAny_holding (wpAny_truthy_bool (wpAny_bind (wpAny_letGo (wpAny_pure ?_)))))
    cases q : bt (i + 1) (argBest bt i) with
    | true =>
      simp only [if_true]
      refine wpAny_bind (wpAny_updateSeq hb' rfl (wpAny_bind (wpAny_letGo ?_)))
      rw [nm]
      refine wpAny_pure ⟨plainId_quiet F.plain_max_loop _, ih (i + 1) _ v _ (by omega) lt (W.frame _ _ _ st' fun b hf o z => ?_) (by simp only [argBest, q, if_true]; exact gv) (Heap.get?_update_self _ hb' rfl) fun v' h2 t2 g2 k2 => ?_⟩
      · exact (Heap.get?_update_other _ _ (fun z2 : best = b => apart (by rw [z2]; exact hf))).trans z
      · exact fin v' h2 t2 g2 fun b o h1 h3 z => k2 b o h1 h3 ((Heap.get?_update_other _ _ (Ne.symm h3)).trans (kp b o h1 z))
    | false =>
      simp only [Bool.false_eq_true, if_false]
      refine wpAny_bind (wpAny_letGo ?_)
      rw [nm]
      refine wpAny_pure ⟨plainId_quiet F.plain_max_loop _, ih (i + 1) _ vb cap (by omega) lt st' (by simp only [argBest, q, Bool.false_eq_true, if_false]; exact gb) hb' fun v' h2 t2 g2 k2 => ?_⟩
      exact fin v' h2 t2 g2 fun b o h1 h3 z => k2 b o h1 h3 (kp b o h1 z)
theorem maxD_first (W : Walks prog w A.in1 I fp wr n G St) (bt : Nat → Nat → Bool) (cmp : CmpOf prog w A.in1 .Gt G bt) (best : Addr) (apart : best ∉ fp) {s : Shared} {cap : Nat} {dname : Str} {d : Value} (st : St 0 s.heap)
    (hb : s.heap.get? best = some { cls := .type "list", dict := none, data := .seq #[] cap, slots := #[] })
    (none' : n = 0 → ∀ h' tk, (∀ b o, b ∉ wr → b ≠ best → s.heap.get? b = some o → h'.get? b = some o) → Rz (.ok (.ret d)) { s with heap := h', toks := tk })
    (fin : 0 < n → ∀ v h' tk, G (argBest bt (n - 1)) v → (∀ b o, b ∉ wr → b ≠ best → s.heap.get? b = some o → h'.get? b = some o) → Rz (.ok (.ret v)) { s with heap := h', toks := tk }) :
    codeAny (model prog w) A (.builtin "max.loop" ⟨[.ref I, .none, .ref best], [(dname, d)]⟩) Rz s := by
  have bw : best ∉ wr := fun h => apart (W.sub _ h)
  have nm : (toString "max" ++ toString ".loop" : String) = "max.loop" := by decide
  refine codeAny_builtin F.entry_max_loop ?_
  rw [Around.under_plainId F.plain_max_loop _]
  show wpAny _ A.in1 (seqItems? (.ref best) >>= _) _ _ s
  refine wpAny_bind (wpAny_seqItems hb rfl ?_)
  show wpAny _ A.in1 (tryCatch (pyNext (.ref I)) _ >>= _) _ _ s
  by_cases hn : n = 0
  · refine wpAny_bind (wpAny_tryCatch (W.done s _ _ (by rw [hn]; exact st) fun h' tk kp => ?_))
    refine wpAny_bind (wpAny_rule (wpAny_pure ?_))
    exact none' hn _ tk fun b o h1 _ q => kp b o h1 q
  · refine wpAny_bind (wpAny_tryCatch (W.item 0 s _ _ (by omega) st fun v h' tk gv st' kp => ?_))
    have hb' := kp best _ bw hb
    show wpAny _ A.in1 (updateSeq best (fun _ => #[v, v]) >>= _) _ _ _
    refine wpAny_bind (wpAny_updateSeq hb' rfl ?_)
    rw [nm]
    refine wpAny_pure ⟨plainId_quiet F.plain_max_loop _, maxD_turns W bt cmp best apart _ 0 _ v _ rfl (by omega) (W.frame _ _ _ st' fun b hf o z => ?_) gv (Heap.get?_update_self _ hb' rfl) fun v' h2 t2 g2 k2 => ?_⟩
    · exact (Heap.get?_update_other _ _ (fun z2 : best = b => apart (by rw [z2]; exact hf))).trans z
    · exact fin (by omega) v' h2 t2 g2 fun b o h1 h3 z => k2 b o h1 h3 ((Heap.get?_update_other _ _ (Ne.symm h3)).trans (kp b o h1 z))
theorem maxD_walk {s : Shared} {x d : Value} {Q : Value → Shared → Prop}
    (h : wpAny (model prog w) A.in1 (pyIter x) (fun it s2 => ∃ I fp wr n G St bt, it = .ref I ∧ Walks prog w A.in1 I fp wr n G St ∧ St 0 s2.heap ∧ (∀ b ∈ fp, b < s2.heap.objs.size) ∧ CmpOf prog w A.in1 .Gt G bt ∧
      (n = 0 → ∀ h' tk, (∀ b o, b ∉ wr → s2.heap.get? b = some o → h'.get? b = some o) → Q d { s2 with heap := h', toks := tk }) ∧
      (0 < n → ∀ v h' tk, G (argBest bt (n - 1)) v → (∀ b o, b ∉ wr → s2.heap.get? b = some o → h'.get? b = some o) → Q v { s2 with heap := h', toks := tk })) E s) :
    wpAny (model prog w) A (call (.builtin "max") [x] [(Str.ofString "default", d)]) Q E s := by
  have nm : (toString "max" ++ toString ".loop" : String) = "max.loop" := by decide
  refine kmk_tree F.kind_max F.plain_max F.entry_max (args_maxD _ _) ?_
  show wpAny _ A.in1 (Builtin.Builtins.bindParams "max" ["key", "default"] 0 ⟨[], [(Str.ofString "default", d)]⟩ >>= _) _ _ s
  refine wpAny_bind (wpAny_of_eq (show Builtin.Builtins.bindParams "max" ["key", "default"] 0 ⟨[], [(Str.ofString "default", d)]⟩ = pure [none, some d] from rfl) ?_)
  refine wpAny_bind (wpAny_pure ?_)
  refine wpAny_bind (wpAny_mono h (fun it s2 h2 => ?_) fun _ _ e => e)
  obtain ⟨I, fp, wr, n, G, St, bt, rfl, W, st, hfp, cmp, q0, q1⟩ := h2
  refine wpAny_bind (wpAny_newObj_type ?_)
  have apart : s2.heap.objs.size ∉ fp := fun hm => Nat.lt_irrefl _ (hfp _ hm)
  rw [nm]
  refine wpAny_pure ⟨plainId_quiet F.plain_max_loop _, maxD_first W bt cmp s2.heap.objs.size apart (W.frame _ _ _ st fun b _ o e => Heap.get?_push_of_some _ e) (Heap.get?_push_size _ rfl) (fun hn h' tk kp => ?_) (fun hn v h' tk gv kp => ?_)⟩
  · exact q0 hn h' tk fun b o h1 e => kp b o h1 (Nat.ne_of_lt (Heap.lt_size e)) (Heap.get?_push_of_some _ e)
  · exact q1 hn v h' tk gv fun b o h1 e => kp b o h1 (Nat.ne_of_lt (Heap.lt_size e)) (Heap.get?_push_of_some _ e)
end
end L2
set_option maxHeartbeats 2000000
namespace SD
open PySem PySem.Spec PyProof.Rows L2
open Vagraa (Frac frac zero one isZero weight)
open VagraLine (Line)
open Vagral (Mode)
/-! ### the text by places -/
def top (i : Nat) : Stmt := PySem.Challenge.pw_smallcode_s01_answers.main.body.getD i (.Pass ⟨0, 0, 0, 0⟩)
/-! ### data -/
abbrev Cd := VagraLine.Code
def frv (f : Frac) : List V := [.int f.num, .int f.den]
def lv (l : Line) : List V := l.told.map V.int
def mdv : Vagral.Made → List V
  | .old i => [.int 7, .int i]
  | .line l => lv l
def nats (ns : List Nat) : List V := ns.map fun (n : Nat) => V.int (n : Int)
abbrev FrA (H : Hp) (a : Addr) (f : Frac) : Prop := H a = some (.tup (frv f))
abbrev LnA (H : Hp) (a : Addr) (l : Line) : Prop := H a = some (.tup (lv l))
/-- the tuples at as are the lines c -/
abbrev Lns (H : Hp) (as : List Addr) (c : Cd) : Prop := Paired (fun a l => LnA H a l) as c
/-- the list at p holds the lines c -/
def CodeAt (H : Hp) (p : Addr) (c : Cd) : Prop := ∃ as : List Addr, H p = some (.lst (as.map V.ref)) ∧ Lns H as c
/-! ### what comes back -/
/-- a value comes back, all that was tracked stays -/
def RetV (H : Hp) (v : V) (Q : VK) : Prop := ∀ H' : Hp, Same H H' → Q v H'
def RetT (H : Hp) (xs : List V) (Q : VK) : Prop := ∀ (H' : Hp) (p : Addr), Same H H' → H' p = some (.tup xs) → Q (.ref p) H'
def RetL (H : Hp) (xs : List V) (Q : VK) : Prop := ∀ (H' : Hp) (p : Addr), Same H H' → H p = none → H' p = some (.lst xs) → Q (.ref p) H'
def RetO (H : Hp) (o : Option (List V)) (Q : VK) : Prop := match o with
  | none => RetV H .non Q
  | some xs => RetT H xs Q
/-! ### heaps -/
theorem same_new {H : Hp} {p : Addr} {o : HO} (h : H p = none) : Same H (upd H p o) := fun b u e => by rw [upd_ne (ne_of_none e h)]; exact e
theorem paired_imp {α β : Type} {F G : α → β → Prop} (h : ∀ a b, F a b → G a b) : ∀ {l : List α} {m : List β}, Paired F l m → Paired G l m
  | _, _, .nil => .nil
  | _, _, .cons r t => .cons (h _ _ r) (paired_imp h t)
theorem Lns.same {H H' : Hp} {as : List Addr} {c : Cd} (h : Lns H as c) (s : Same H H') : Lns H' as c := paired_imp (fun a l e => s a _ e) h
theorem CodeAt.same {H H' : Hp} {p : Addr} {c : Cd} (h : CodeAt H p c) (s : Same H H') : CodeAt H' p c :=
  let ⟨as, h1, h2⟩ := h
  ⟨as, s _ _ h1, Lns.same h2 s⟩
theorem paired_get {α β : Type} {F : α → β → Prop} : ∀ {l : List α} {m : List β} {i : Nat} {b : β}, Paired F l m → m[i]? = some b → ∃ a, l[i]? = some a ∧ F a b
  | _, _, i, b, .nil, e => by simp at e
  | _, _, 0, b, .cons r _, e => by simp at e; subst e; exact ⟨_, rfl, r⟩
  | _, _, i + 1, b, .cons _ t, e => by
    obtain ⟨a, h1, h2⟩ := paired_get (i := i) t (by simpa using e)
    exact ⟨a, by simpa using h1, h2⟩
theorem paired_snoc {α β : Type} {F : α → β → Prop} {a : α} {b : β} (r : F a b) : ∀ {l : List α} {m : List β}, Paired F l m → Paired F (l ++ [a]) (m ++ [b])
  | _, _, .nil => .cons r .nil
  | _, _, .cons q t => .cons q (paired_snoc r t)
/-- an item of a code's list -/
theorem CodeAt.get {K : PySem.W.Frag} {H : Hp} {p : Addr} {c : Cd} {i : Nat} {l : Line} (h : CodeAt H p c) (e : c[i]? = some l) : ∃ xs a, SqL K H p xs ∧ atI xs (i : Int) = some (.ref a) ∧ LnA H a l := by
  obtain ⟨as, h1, h2⟩ := h
  obtain ⟨a, h3, h4⟩ := paired_get h2 e
  exact ⟨_, a, SqL.of h1, atI_nat (by rw [List.getElem?_map, h3]; rfl), h4⟩
theorem at0 {α : Type} {x : α} {r : List α} : atI (x :: r) 0 = some x := atI_nat (j := 0) rfl
theorem at1 {α : Type} {x y : α} {r : List α} : atI (x :: y :: r) 1 = some y := atI_nat (j := 1) rfl
theorem at2 {α : Type} {x y z : α} {r : List α} : atI (x :: y :: z :: r) 2 = some z := atI_nat (j := 2) rfl
/-! ### names of the file's top -/
/-- a whole number of the file's top -/
def GI (mg : Str → Option Value) (x : Str) (i : Int) : Prop := ∃ t, mg x = some (.int i t)
theorem pgi {X : Cx} {x : Str} {i : Int} {pos : Pos} (h : GI X.mg x i) (hg : Gl X x := by rfl) (hd : (x == ("__debug__" : Str)) = false := by decide) : PE X (.Name x pos) (tC (.int i)) :=
  let ⟨t, e⟩ := h
  pe_glob hg e ⟨t, rfl⟩ hd
/-- a def of the file's top, with what it promises -/
structure Fk (P : Program) (w : World) (K : PySem.W.Frag) (mg : Str → Option Value) (base : Heap) (k : Nat) (x : Str) (ps : List Str) (sp : Sp) : Prop where
  ex : ∃ (f : Addr) (fd : FuncData), FnOk P w K mg base CX0 k f fd ps sp ∧ Binds K fd ps [] ∧ mg x = some (.ref f) ∧ PySem.W.keepIn K (.ref f) = true
theorem pcall {X : Cx} {k : Nat} {x : Str} {ps : List Str} {sp : Sp} {e : Expr} {es : List Expr} {t : TA} {p pos : Pos} (C : Fk X.prog X.w X.K X.mg X.base k x ps sp) (hr : Room k X.A) (ha : PA X (e :: es) t) (hg : Gl X x := by rfl)
    (hdb : (x == ("__debug__" : Str)) = false := by decide) (he : starEach (e :: es) X.env = (false, eval e X.env) :: starEach es X.env := by rfl) (hpl : (backTo pos (starEach es X.env)).any (·.1) = false := by rfl) :
    PE X (.Call (.Name x p) (e :: es) [] pos) (tCall sp [] E0 t) := by
  obtain ⟨f, fd, F, b, m, kp⟩ := C.ex
  exact pe_call F hr hg m kp b .nil pass0 ha hdb he hpl
/-- a def of the text, to be shown -/
structure Df (K : PySem.W.Frag) (mg : Str → Option Value) (x : Str) (st : Stmt) (ps : List Str) (f : Addr) (fd : FuncData) : Prop where
  fn : Fun K x x st f fd
  b : Binds K fd ps []
  m : mg x = some (.ref f)
theorem Df.fk {P : Program} {w : World} {K : PySem.W.Frag} {mg : Str → Option Value} {base : Heap} {k : Nat} {x : Str} {st : Stmt} {ps : List Str} {f : Addr} {fd : FuncData} {sp : Sp} (D : Df K mg x st ps f fd) (h : FnOk P w K mg base CX0 k f fd ps sp) :
    Fk P w K mg base k x ps sp := ⟨f, fd, h, D.b, D.m, D.fn.kp⟩
/-- a def by its text alone -/
def Dx (K : PySem.W.Frag) (mg : Str → Option Value) (x : Str) (st : Stmt) (ps : List Str) : Prop := ∃ f fd, Df K mg x st ps f fd
/-- THE RULE in short -/
theorem Dx.ok {P : Program} {w : World} {K : PySem.W.Frag} {mg : Str → Option Value} {base : Heap} {k : Nat} {x : Str} {st : Stmt} {N ps : List Str} {sp : Sp} (D : Dx K mg x st ps) (S : FnScope N ps (defScope st)) (len : ∀ vs H Q E, sp vs H Q E → vs.length = ps.length)
    (hbody : ∀ (f : Addr) (cdv : Value) (A : Around) (outer : List Env) (s : Shared) (H : Hp) (vs : List V) (Q : VK) (E : XK), Room k (A.deeper (envOfC x (defScope st) s.heap.objs.size f cdv)) → sp vs H Q E →
      ∃ t, PSs (cxOf CX0 P w K mg base N x (defScope st) f cdv A outer s H E).nox (defBody st) t ∧ t { nx := fun _ H' => Q .non H', rt := Q } (start N vs) H) : Fk P w K mg base (k + 1) x ps sp := by
  obtain ⟨f, fd, D⟩ := D
  exact D.fk (D.fn.ok S len fun cdv A outer s H vs Q E hr h => hbody f cdv A outer s H vs Q E hr h)
/-! ### comprehensions without a test -/
theorem range_snoc (ys : Nat → V) (i : Nat) : (List.range i).map ys ++ [ys i] = (List.range (i + 1)).map ys := by rw [List.range_succ, List.map_append]; rfl
theorem lc_mapL {K : PySem.W.Frag} {a : Addr} {xs : List V} {g : TG} {te : TE} {vs : List Nat} {σ : L2.St} {H1 : Hp} {D : Addr} {Qd : Hp → Prop} (ys : Nat → V) (hD : H1 D = none) (hq : SqL K H1 a xs) (hz : xs.length ≤ sizeLine)
    (turn : ∀ (i : Nat) (x : V) (H : Hp) (k : V → Hp → Prop), xs[i]? = some x → Same H1 H → (∀ H4 : Hp, Same H H4 → k (ys i) H4) → g x (wipe σ vs) H fun σ2 H2 => wipe σ2 vs = wipe σ vs ∧ te σ2 H2 k)
    (hd : ∀ H : Hp, Same H1 H → H D = some (.lst ((List.range xs.length).map ys)) → Qd H) :
    ∃ W : Nat → Nat → Hp → Prop, (∃ m, W 0 m (upd H1 D (.lst []))) ∧ ∀ i m H, W i m H →
      ((Itl K a).stop i H ∧ Qd H) ∨ ((Itl K a).go i H ∧ ∃ Nx : Hp → Prop, (∀ H', Nx H' → ∃ m', m' < m ∧ W (i + 1) m' H') ∧ ∀ x H', (Itl K a).yld i H x H' → g x (wipe σ vs) H' fun σ2 H2 => wipe σ2 vs = wipe σ vs ∧ tYes σ2 H2 fun b H3 =>
        if b = true then te σ2 H3 fun y H4 => ∃ acc, H4 D = some (.lst acc) ∧ acc.length < sizeLine ∧ Nx (upd H4 D (.lst (acc ++ [y]))) else Nx H3) := by
  refine lc_list (xs := xs) (fun i H => Same H1 H ∧ H D = some (.lst ((List.range i).map ys))) ⟨same_new hD, upd_same⟩ (fun i H _ p => p.1.seq hq) (fun i x H hx p => ?_) (fun H p => hd H p.1 p.2)
  have hi := (List.getElem?_eq_some_iff.mp hx).1
  have t := turn i x H (fun y H4 => ∃ acc, H4 D = some (.lst acc) ∧ acc.length < sizeLine ∧ (Same H1 (upd H4 D (.lst (acc ++ [y]))) ∧ (upd H4 D (.lst (acc ++ [y]))) D = some (.lst ((List.range (i + 1)).map ys)))) hx p.1 (fun H4 s4 => ?_)
  · exact t
  · refine ⟨_, s4 _ _ p.2, by rw [List.length_map, List.length_range]; omega, fun b o e => ?_, ?_⟩
    · rw [upd_ne (ne_of_none e hD)]; exact s4 _ _ (p.1 _ _ e)
    · rw [upd_same, range_snoc]
theorem lc_mapT {K : PySem.W.Frag} {a : Addr} {xs : List V} {g : TG} {te : TE} {vs : List Nat} {σ : L2.St} {H1 : Hp} {D : Addr} {Qd : Hp → Prop} (ys : Nat → V) (hD : H1 D = none) (hq : H1 a = some (.tup xs)) (hz : xs.length ≤ sizeLine)
    (turn : ∀ (i : Nat) (x : V) (H : Hp) (k : V → Hp → Prop), xs[i]? = some x → Same H1 H → (∀ H4 : Hp, Same H H4 → k (ys i) H4) → g x (wipe σ vs) H fun σ2 H2 => wipe σ2 vs = wipe σ vs ∧ te σ2 H2 k)
    (hd : ∀ H : Hp, Same H1 H → H D = some (.lst ((List.range xs.length).map ys)) → Qd H) :
    ∃ W : Nat → Nat → Hp → Prop, (∃ m, W 0 m (upd H1 D (.lst []))) ∧ ∀ i m H, W i m H →
      ((Itt K a).stop i H ∧ Qd H) ∨ ((Itt K a).go i H ∧ ∃ Nx : Hp → Prop, (∀ H', Nx H' → ∃ m', m' < m ∧ W (i + 1) m' H') ∧ ∀ x H', (Itt K a).yld i H x H' → g x (wipe σ vs) H' fun σ2 H2 => wipe σ2 vs = wipe σ vs ∧ tYes σ2 H2 fun b H3 =>
        if b = true then te σ2 H3 fun y H4 => ∃ acc, H4 D = some (.lst acc) ∧ acc.length < sizeLine ∧ Nx (upd H4 D (.lst (acc ++ [y]))) else Nx H3) := by
  refine lc_tup (xs := xs) (fun i H => Same H1 H ∧ H D = some (.lst ((List.range i).map ys))) ⟨same_new hD, upd_same⟩ (fun i H _ p => SqT.of (p.1 _ _ hq)) (fun i x H hx p => ?_) (fun H p => hd H p.1 p.2)
  have hi := (List.getElem?_eq_some_iff.mp hx).1
  have t := turn i x H (fun y H4 => ∃ acc, H4 D = some (.lst acc) ∧ acc.length < sizeLine ∧ (Same H1 (upd H4 D (.lst (acc ++ [y]))) ∧ (upd H4 D (.lst (acc ++ [y]))) D = some (.lst ((List.range (i + 1)).map ys)))) hx p.1 (fun H4 s4 => ?_)
  · exact t
  · refine ⟨_, s4 _ _ p.2, by rw [List.length_map, List.length_range]; omega, fun b o e => ?_, ?_⟩
    · rw [upd_ne (ne_of_none e hD)]; exact s4 _ _ (p.1 _ _ e)
    · rw [upd_same, range_snoc]
theorem range_map_get {α : Type} {f : Nat → V} {l : List α} {g : α → V} (h : ∀ i x, l[i]? = some x → f i = g x) : (List.range l.length).map f = l.map g := by
  apply List.ext_getElem?
  intro i
  rw [List.getElem?_map, List.getElem?_map]
  by_cases hi : i < l.length
  · rw [List.getElem?_range hi, List.getElem?_eq_getElem hi]
    exact congrArg some (h i _ (List.getElem?_eq_getElem hi))
  · rw [List.getElem?_eq_none (by simp; omega), List.getElem?_eq_none (by omega)]
    rfl
/-! ### max(xs, default=d) as an expression -/
def tMaxD (K : PySem.W.Frag) (t : TA) (td : TE) : TE := fun σ H Q => t σ H fun vs H1 => td σ H1 fun y H2 => ∃ (a : Addr) (ns : List Int) (d : Int), vs = [.ref a] ∧ y = .int d ∧ (SqL K H2 a (ns.map V.int) ∨ SqT K H2 a (ns.map V.int)) ∧
  (ns = [] → Q (.int d) H2) ∧ ∀ m, m ∈ ns → (∀ z, z ∈ ns → z ≤ m) → Q (.int m) H2
theorem boot_max' : bootBuiltins "max" = some (.builtin "max") := by decide +kernel
theorem pe_maxD {X : Cx} {e d : Expr} {t : TA} {td : TE} {p pos kp : Pos} (hc : X.calm = true) (hg : Gl X "max") (hm : X.mg "max" = none) (ha : PA X [e] t) (hd : PE X d td) (he : backTo pos (starEach [e] X.env) = (false, eval e X.env) :: backTo pos (starEach [] X.env) := by rfl)
    (hpl : (backTo pos (starEach [e] X.env)).any (·.1) = false := by rfl) (hal : (backToKw pos (keywordEach [⟨some "default", d, kp⟩] X.env)).all (·.1.isSome) = true := by rfl) (hkw : (backToKw pos (keywordEach [⟨some "default", d, kp⟩] X.env)).any (·.1.isNone) = false := by rfl)
    (hnm : (backToKw pos (keywordEach [⟨some "default", d, kp⟩] X.env)).filterMap (·.1) = [Str.ofString "default"] := by rfl) :
    PE X (.Call (.Name "max" p) [e] [⟨some "default", d, kp⟩] pos) (tMaxD X.K t td) := by
  intro pins s σ H Q I h
  refine wpAny_Call_Name_kw (ld_blt I hg hm boot_max' ?_)
  refine callWith_kw (thn (ha pos pins s σ H _ I h) fun us s1 ⟨vs, H1, I1, r1, q1⟩ => kws_cons (thn (hd pins s1 σ H1 _ I1 q1) fun dv s2 ⟨y, H2, I2, r2, q2⟩ => kws_nil ?_)) he hpl hal hkw
  obtain ⟨a, ns, dd, rfl, rfl, hs, q0, qm⟩ := q2
  obtain ⟨t', rfl⟩ := r2
  rw [hnm, Vals.ref1 r1]
  have hh := I2.ok.hd hc
  show wpAny _ _ (call (.builtin "max") [.ref a] [(Str.ofString "default", .int dd t')]) _ _ s2
  rcases hs with hs | hs
  · obtain ⟨its, rv, pl, _⟩ := I2.list hs
    obtain ⟨xs, ei⟩ := rv.ints.allInts.items
    have hn : numsOf (intItems xs).toList = ns := by rw [← ei]; exact rv.ints.numsOf
    rw [nums_intItems] at hn
    have hl := pl.isList
    rw [ei] at hl
    have hlt : a < s2.heap.objs.size := by obtain ⟨_, q, _⟩ := hl; exact Heap.lt_size q
    refine maxD_walk (iter_intList hl fun s3 e3 st hfp hne => ?_)
    subst e3
    refine ⟨_, _, _, _, _, _, _, rfl, Walks.list (A := X.A.in1) hh _ a hne (intItems xs), st, hfp, CmpOf.ints_gt (numAt xs) (fun _ _ => intItems_at), fun h0 h' tk kp' => ?_, fun h0 v h' tk gv kp' => ?_⟩
    · have e0 : ns = [] := by rw [← hn]; have : xs.size = 0 := by simpa [intItems] using h0
                              have : xs = #[] := Array.eq_empty_of_size_eq_zero this
                              subst this; rfl
      exact ⟨.int dd, H2, I2.kept (old_kept kp'), ⟨_, rfl⟩, q0 e0⟩
    · obtain ⟨t2, rfl⟩ := intItems_at gv
      have hsz : 0 < xs.size := by simpa [intItems] using h0
      obtain ⟨h1, h2⟩ := argBest_gt (numAt xs) (xs.size - 1)
      have es : (intItems xs).size = xs.size := by simp [intItems]
      rw [es]
      refine ⟨.int _, H2, I2.kept (old_kept kp'), ⟨_, rfl⟩, qm _ ?_ fun z hz => ?_⟩
      · rw [← hn, numAt_eq]; exact PySem.getD_mem (by rw [List.length_map, Array.length_toList]; omega)
      · rw [← hn] at hz
        obtain ⟨j, hj, rfl⟩ := mem_getD hz
        rw [List.length_map, Array.length_toList] at hj
        rw [← numAt_eq]; exact h2 j (by omega)
  · obtain ⟨its, rv, pl, _⟩ := I2.tuple hs
    obtain ⟨xs, ei⟩ := rv.ints.allInts.items
    have hn : numsOf (intItems xs).toList = ns := by rw [← ei]; exact rv.ints.numsOf
    rw [nums_intItems] at hn
    have hl : s2.heap.IsTuple a its.toArray := pl
    rw [ei] at hl
    have hlt : a < s2.heap.objs.size := by obtain ⟨_, q, _⟩ := hl; exact Heap.lt_size q
    refine maxD_walk (wpAny_pyIter_tuple hl ?_)
    have old : ∀ h' : Heap, (∀ b o, b ∉ [s2.heap.objs.size] → (s2.heap.push { cls := .type "tuple_iterator", data := .fields #[.ref a, .int 0 0] }).get? b = some o → h'.get? b = some o) → ∀ b o, s2.heap.get? b = some o → h'.get? b = some o := fun h' kp' b o q =>
      kp' b o (fun hm => by rw [List.mem_singleton.mp hm] at q; exact absurd (Heap.lt_size q) (Nat.lt_irrefl _)) (Heap.get?_push_of_some _ q)
    refine ⟨_, _, _, _, _, _, _, rfl, Walks.tuple (A := X.A.in1) hh s2.heap.objs.size a (Nat.ne_of_lt hlt) (intItems xs), ⟨⟨_, Heap.get?_push_size _ rfl, rfl, rfl⟩, hl.at fun o q => Heap.get?_push_of_some _ q⟩, fun b hb => ?_, CmpOf.ints_gt (numAt xs) (fun _ _ => intItems_at), fun h0 h' tk kp' => ?_, fun h0 v h' tk gv kp' => ?_⟩
    · show b < (s2.heap.push _).objs.size
      rw [Heap.size_push]
      rcases List.mem_cons.mp hb with q | q
      · rw [q]; exact Nat.lt_succ_self _
      · rw [List.mem_singleton.mp q]; exact Nat.lt_succ_of_lt hlt
    · have e0 : ns = [] := by rw [← hn]; have : xs.size = 0 := by simpa [intItems] using h0
                              have : xs = #[] := Array.eq_empty_of_size_eq_zero this
                              subst this; rfl
      exact ⟨.int dd, H2, I2.kept (old h' kp'), ⟨_, rfl⟩, q0 e0⟩
    · obtain ⟨t2, rfl⟩ := intItems_at gv
      have hsz : 0 < xs.size := by simpa [intItems] using h0
      obtain ⟨h1, h2⟩ := argBest_gt (numAt xs) (xs.size - 1)
      have es : (intItems xs).size = xs.size := by simp [intItems]
      rw [es]
      refine ⟨.int _, H2, I2.kept (old h' kp'), ⟨_, rfl⟩, qm _ ?_ fun z hz => ?_⟩
      · rw [← hn, numAt_eq]; exact PySem.getD_mem (by rw [List.length_map, Array.length_toList]; omega)
      · rw [← hn] at hz
        obtain ⟨j, hj, rfl⟩ := mem_getD hz
        rw [List.length_map, Array.length_toList] at hj
        rw [← numAt_eq]; exact h2 j (by omega)
end SD
set_option maxHeartbeats 2000000
namespace SD
open PySem PySem.Spec PyProof.Rows L2
open Vagraa (Frac frac zero one isZero weight)
open VagraLine (Line)
open Vagral (Mode)
section
variable {P : Program} {w : World} {K : PySem.W.Frag} {mg : Str → Option Value} {base : Heap}
/-! ### fraction.py -/
abbrev sGcd : Stmt := top 2
abbrev sLow : Stmt := top 3
abbrev sWgt : Stmt := top 4
abbrev sPlus : Stmt := top 5
abbrev sNeg : Stmt := top 6
abbrev sMinus : Stmt := top 7
abbrev sTimes : Stmt := top 8
abbrev sDiv : Stmt := top 9
def spGcd : Sp := fun vs H Q _ => ∃ a b : Nat, vs = [.int a, .int b] ∧ Q (.int (Nat.gcd a b : Nat)) H
theorem scGcd : FnScope ["left", "right", "rest"] ["left", "right"] (defScope sGcd) := ⟨rfl, rfl, rfl, by decide +kernel, rfl, by decide +kernel, by decide +kernel⟩
theorem ok_gcd (D : Dx K mg "greatest_divisor" sGcd ["left", "right"]) : Fk P w K mg base 1 "greatest_divisor" ["left", "right"] spGcd := by
  refine D.ok scGcd (fun vs H Q E h => ?_) (fun f cdv A outer s H vs Q E hr h => ?_)
  · obtain ⟨a, b, rfl, _⟩ := h
    rfl
  · obtain ⟨a0, b0, rfl, k⟩ := h
    refine ⟨_, pss_cons (ps_while PassesOwn.never (pt_cmpR op_ne (pv 1) pe_int (nomark _))
      (pss_cons (ps_set (i := 2) scGcd.nd rfl (Or.inl rfl) (pe_op op_mod (pv 0) (pv 1))) (pss_cons (ps_set (i := 0) scGcd.nd rfl (Or.inl rfl) (pv 1)) (pss_one (ps_set (i := 1) scGcd.nd rfl (Or.inl rfl) (pv 2))))))
      (pss_one (ps_ret (pv 0))), ?_⟩
    refine ⟨fun m σ H1 => ∃ (a b : Nat) (r : Option V), m = b ∧ σ = [some (.int a), some (.int b), r] ∧ H1 = H ∧ Nat.gcd a b = Nat.gcd a0 b0, ⟨b0, a0, b0, none, rfl, rfl, rfl, rfl⟩, ?_⟩
    rintro m σ H1 ⟨a, b, r, rfl, rfl, rfl, hg⟩
    refine ⟨_, rfl, rfl, _, rfl, ?_⟩
    refine ite2 (fun hb => ?_) (fun hb => ?_)
    · have hb' : m ≠ 0 := fun q => by subst q; simp at hb
      refine ⟨fun σ' H' => ∃ (a b : Nat) (r : Option V), b < m ∧ σ' = [some (.int a), some (.int b), r] ∧ H' = H1 ∧ Nat.gcd a b = Nat.gcd a0 b0, fun σ' H' ⟨a', b', r', h1, h2, h3, h4⟩ => ⟨b', h1, a', b', r', rfl, h2, h3, h4⟩, ?_⟩
      refine ⟨_, rfl, _, rfl, _, _, rfl, rfl, (by show (0 : Int) < (m : Int); omega), ?_⟩
      refine ⟨_, rfl, _, rfl, ?_⟩
      exact ⟨m, a % m, _, Nat.mod_lt _ (by omega), by rw [show ((a % m : Nat) : Int) = (a : Int) % (m : Int) from Int.natCast_emod a m]; rfl, rfl, by rw [SC.gcd_turn]; exact hg⟩
    · have hb' : m = 0 := Classical.byContradiction fun q => hb (by simp; exact q)
      subst hb'
      refine ⟨_, rfl, ?_⟩
      rw [← hg, Nat.gcd_zero_right] at k
      exact k
def spLow : Sp := fun vs H Q _ => ∃ t b : Int, vs = [.int t, .int b] ∧ b ≠ 0 ∧ b.natAbs < 2 ^ 1000 ∧ RetT H (frv (SC.low t b)) Q
theorem scLow : FnScope ["top", "bottom", "common"] ["top", "bottom"] (defScope sLow) := ⟨rfl, rfl, rfl, by decide +kernel, rfl, by decide +kernel, by decide +kernel⟩
theorem abs_if (i : Int) : (if i < 0 then -i else i) = (i.natAbs : Int) := by split <;> omega
theorem boot_abs' : bootBuiltins "abs" = some (.builtin "abs") := by decide +kernel
theorem ok_low (D : Dx K mg "lowest" sLow ["top", "bottom"]) (C : Fk P w K mg base 1 "greatest_divisor" ["left", "right"] spGcd) (mA : mg "abs" = none) : Fk P w K mg base 2 "lowest" ["top", "bottom"] spLow := by
  refine D.ok scLow (fun vs H Q E h => ?_) (fun f cdv A outer s H vs Q E hr h => ?_)
  · obtain ⟨t, b, rfl, _⟩ := h
    rfl
  · obtain ⟨t, b, rfl, hb, hB, k⟩ := h
    refine ⟨_, pss_cons (ps_set (i := 2) scLow.nd rfl (Or.inl rfl) (pcall C hr (pa_cons (pe_callB call_abs rfl mA boot_abs' (pa_cons (pv 0) pa_nil)) (pa_cons (pe_callB call_abs rfl mA boot_abs' (pa_cons (pv 1) pa_nil)) pa_nil))))
      (pss_cons (ps_if (pt_cmpR op_lt (pv 1) pe_int (nomark _)) (pss_one (ps_set (i := 2) scLow.nd rfl (Or.inl rfl) (pe_un un_neg (pv 2)))) pss_nil)
      (pss_one (ps_ret (pe_tup (pa_cons (pe_op op_fdivB (pv 0) (pv 2)) (pa_cons (pe_op op_fdivB (pv 1) (pv 2)) pa_nil)))))), ?_⟩
    refine ⟨_, rfl, _, rfl, _, rfl, _, rfl, t.natAbs, b.natAbs, by rw [abs_if, abs_if]; rfl, ?_⟩
    have hc := SC.comm_ne t hb
    have hcb : (SC.comm t b).natAbs < 2 ^ 1000 := by
      have : Nat.gcd t.natAbs b.natAbs ≤ b.natAbs := Nat.le_of_dvd (by omega) (Nat.gcd_dvd_right _ _)
      have : (SC.comm t b).natAbs = Nat.gcd t.natAbs b.natAbs := by unfold SC.comm; split <;> omega
      omega
    have fin : ∀ p : Addr, H p = none → Q (.ref p) (upd H p (.tup [.int (t.fdiv (SC.comm t b)), .int (b.fdiv (SC.comm t b))])) := fun p hp =>
      k _ p (same_new hp) (by rw [upd_same, SC.low_num t hb, SC.low_den t hb]; rfl)
    refine ⟨_, rfl, _, _, rfl, rfl, _, rfl, ite2 (fun h => ?_) (fun h => ?_)⟩
    · have e : -((Nat.gcd t.natAbs b.natAbs : Nat) : Int) = SC.comm t b := by unfold SC.comm; rw [if_pos (of_decide_eq_true h)]
      refine ⟨_, rfl, _, rfl, ?_⟩
      refine ⟨_, rfl, _, rfl, _, _, rfl, rfl, ?_, _, rfl, _, rfl, _, _, rfl, rfl, ?_, by show 2 ≤ sizeLine; decide, fun p hp => ?_⟩
      · rw [e]; exact ⟨hc, hcb⟩
      · rw [e]; exact ⟨hc, hcb⟩
      · rw [e]; exact fin p hp
    · have e : ((Nat.gcd t.natAbs b.natAbs : Nat) : Int) = SC.comm t b := by unfold SC.comm; rw [if_neg (fun q => h (decide_eq_true q))]
      refine ⟨_, rfl, _, rfl, _, _, rfl, rfl, ?_, _, rfl, _, rfl, _, _, rfl, rfl, ?_, by show 2 ≤ sizeLine; decide, fun p hp => ?_⟩
      · rw [e]; exact ⟨hc, hcb⟩
      · rw [e]; exact ⟨hc, hcb⟩
      · rw [e]; exact fin p hp
def spWgt : Sp := fun vs H Q _ => ∃ (a : Addr) (f : Frac), vs = [.ref a] ∧ FrA H a f ∧ Q (.int (weight f : Nat)) H
theorem scWgt : FnScope ["value"] ["value"] (defScope sWgt) := ⟨rfl, rfl, rfl, by decide +kernel, rfl, by decide +kernel, by decide +kernel⟩
theorem ok_wgt (D : Dx K mg "weight" sWgt ["value"]) : Fk P w K mg base 1 "weight" ["value"] spWgt := by
  refine D.ok scWgt (fun vs H Q E h => ?_) (fun f cdv A outer s H vs Q E hr h => ?_)
  · obtain ⟨a, g, rfl, _⟩ := h
    rfl
  · obtain ⟨a, g, rfl, ha, k⟩ := h
    refine ⟨_, pss_one (ps_ret (pe_op op_add
      (pe_bm0 PySem.F.plainAttrs_int PySem.F.slot_int_bit_length PySem.F.type_int_bit_length mt_bits (pe_ix ix_tup (pv 0) pe_int (fun _ _ => rfl)))
      (pe_bm0 PySem.F.plainAttrs_int PySem.F.slot_int_bit_length PySem.F.type_int_bit_length mt_bits (pe_ix ix_tup (pv 0) pe_int (fun _ _ => rfl))))), ?_⟩
    refine ⟨_, rfl, a, _, _, _, rfl, rfl, SqT.of ha, at0, rfl, _, rfl, rfl, _, rfl, a, _, _, _, rfl, rfl, SqT.of ha, at1, rfl, _, rfl, rfl, _, _, rfl, rfl, ?_⟩
    have e : (Vagraa.bits g.num.natAbs : Int) + (Vagraa.bits ((g.den : Int)).natAbs : Int) = ((weight g : Nat) : Int) := by
      unfold weight
      rw [Int.natAbs_natCast]
      omega
    rw [← e] at k
    exact k
theorem fit_big {f : Frac} (h : SC.Fit f) : f.num.natAbs < 2 ^ 1000 ∧ ((f.den : Int)).natAbs < 2 ^ 1000 :=
  ⟨Nat.lt_of_lt_of_le h.num (Nat.pow_le_pow_right (by decide) (by decide)), by rw [Int.natAbs_natCast]; exact Nat.lt_of_lt_of_le h.den (Nat.pow_le_pow_right (by decide) (by decide))⟩
theorem big_dd {f g : Frac} (hf : SC.Fit f) (hg : SC.Fit g) : ((f.den : Int) * (g.den : Int)).natAbs < 2 ^ 1000 :=
  Nat.lt_of_lt_of_le (SC.big_mul (j := 200) (k := 200) (by rw [Int.natAbs_natCast]; exact hf.den) (by rw [Int.natAbs_natCast]; exact hg.den)) (Nat.pow_le_pow_right (by decide) (by decide))
theorem ne_dd {f g : Frac} (hf : SC.Fit f) (hg : SC.Fit g) : (f.den : Int) * (g.den : Int) ≠ 0 := by
  have h1 := hf.1
  have h2 := hg.1
  exact Int.mul_ne_zero (by omega) (by omega)
/-- two fit fractions in, one out -/
def sp2 (g : Frac → Frac → Frac) : Sp := fun vs H Q _ => ∃ (a b : Addr) (x y : Frac), vs = [.ref a, .ref b] ∧ FrA H a x ∧ FrA H b y ∧ SC.Fit x ∧ SC.Fit y ∧ RetT H (frv (g x y)) Q
theorem scPlus : FnScope ["left", "right"] ["left", "right"] (defScope sPlus) := ⟨rfl, rfl, rfl, by decide +kernel, rfl, by decide +kernel, by decide +kernel⟩
theorem ok_plus (D : Dx K mg "plus" sPlus ["left", "right"]) (C : Fk P w K mg base 2 "lowest" ["top", "bottom"] spLow) : Fk P w K mg base 3 "plus" ["left", "right"] (sp2 Vagraa.add) := by
  refine D.ok scPlus (fun vs H Q E h => ?_) (fun f cdv A outer s H vs Q E hr h => ?_)
  · obtain ⟨a, b, x, y, rfl, _⟩ := h
    rfl
  · obtain ⟨a, b, x, y, rfl, ha, hb, fx, fy, k⟩ := h
    refine ⟨_, pss_one (ps_ret (pcall C hr (pa_cons (pe_op op_add (pe_op op_mulB (pe_ix ix_tup (pv 0) pe_int (fun _ _ => rfl)) (pe_ix ix_tup (pv 1) pe_int (fun _ _ => rfl))) (pe_op op_mulB (pe_ix ix_tup (pv 1) pe_int (fun _ _ => rfl)) (pe_ix ix_tup (pv 0) pe_int (fun _ _ => rfl))))
      (pa_cons (pe_op op_mulB (pe_ix ix_tup (pv 0) pe_int (fun _ _ => rfl)) (pe_ix ix_tup (pv 1) pe_int (fun _ _ => rfl))) pa_nil)))), ?_⟩
    refine ⟨_, rfl, a, _, _, _, rfl, rfl, SqT.of ha, at0, _, rfl, b, _, _, _, rfl, rfl, SqT.of hb, at1, _, _, rfl, rfl, ⟨(fit_big fx).1, (fit_big fy).2⟩, ?_⟩
    refine ⟨_, rfl, b, _, _, _, rfl, rfl, SqT.of hb, at0, _, rfl, a, _, _, _, rfl, rfl, SqT.of ha, at1, _, _, rfl, rfl, ⟨(fit_big fy).1, (fit_big fx).2⟩, _, _, rfl, rfl, ?_⟩
    refine ⟨_, rfl, a, _, _, _, rfl, rfl, SqT.of ha, at1, _, rfl, b, _, _, _, rfl, rfl, SqT.of hb, at1, _, _, rfl, rfl, ⟨(fit_big fx).2, (fit_big fy).2⟩, ?_⟩
    refine ⟨_, _, rfl, ne_dd fx fy, big_dd fx fy, ?_⟩
    rw [SC.add_low]
    exact k
theorem scTimes : FnScope ["left", "right"] ["left", "right"] (defScope sTimes) := ⟨rfl, rfl, rfl, by decide +kernel, rfl, by decide +kernel, by decide +kernel⟩
theorem ok_times (D : Dx K mg "times" sTimes ["left", "right"]) (C : Fk P w K mg base 2 "lowest" ["top", "bottom"] spLow) : Fk P w K mg base 3 "times" ["left", "right"] (sp2 Vagraa.mul) := by
  refine D.ok scTimes (fun vs H Q E h => ?_) (fun f cdv A outer s H vs Q E hr h => ?_)
  · obtain ⟨a, b, x, y, rfl, _⟩ := h
    rfl
  · obtain ⟨a, b, x, y, rfl, ha, hb, fx, fy, k⟩ := h
    refine ⟨_, pss_one (ps_ret (pcall C hr (pa_cons (pe_op op_mulB (pe_ix ix_tup (pv 0) pe_int (fun _ _ => rfl)) (pe_ix ix_tup (pv 1) pe_int (fun _ _ => rfl)))
      (pa_cons (pe_op op_mulB (pe_ix ix_tup (pv 0) pe_int (fun _ _ => rfl)) (pe_ix ix_tup (pv 1) pe_int (fun _ _ => rfl))) pa_nil)))), ?_⟩
    refine ⟨_, rfl, a, _, _, _, rfl, rfl, SqT.of ha, at0, _, rfl, b, _, _, _, rfl, rfl, SqT.of hb, at0, _, _, rfl, rfl, ⟨(fit_big fx).1, (fit_big fy).1⟩, ?_⟩
    refine ⟨_, rfl, a, _, _, _, rfl, rfl, SqT.of ha, at1, _, rfl, b, _, _, _, rfl, rfl, SqT.of hb, at1, _, _, rfl, rfl, ⟨(fit_big fx).2, (fit_big fy).2⟩, ?_⟩
    refine ⟨_, _, rfl, ne_dd fx fy, big_dd fx fy, ?_⟩
    rw [SC.mul_low]
    exact k
def spNeg : Sp := fun vs H Q _ => ∃ (a : Addr) (x : Frac), vs = [.ref a] ∧ FrA H a x ∧ RetT H (frv (Vagraa.neg x)) Q
theorem scNeg : FnScope ["value"] ["value"] (defScope sNeg) := ⟨rfl, rfl, rfl, by decide +kernel, rfl, by decide +kernel, by decide +kernel⟩
theorem ok_neg (D : Dx K mg "negative" sNeg ["value"]) : Fk P w K mg base 1 "negative" ["value"] spNeg := by
  refine D.ok scNeg (fun vs H Q E h => ?_) (fun f cdv A outer s H vs Q E hr h => ?_)
  · obtain ⟨a, x, rfl, _⟩ := h
    rfl
  · obtain ⟨a, x, rfl, ha, k⟩ := h
    refine ⟨_, pss_one (ps_ret (pe_tup (pa_cons (pe_un un_neg (pe_ix ix_tup (pv 0) pe_int (fun _ _ => rfl))) (pa_cons (pe_ix ix_tup (pv 0) pe_int (fun _ _ => rfl)) pa_nil)))), ?_⟩
    refine ⟨_, rfl, a, _, _, _, rfl, rfl, SqT.of ha, at0, _, rfl, _, rfl, a, _, _, _, rfl, rfl, SqT.of ha, at1, by show 2 ≤ sizeLine; decide, fun p hp => ?_⟩
    exact k _ p (same_new hp) upd_same
theorem scMinus : FnScope ["left", "right"] ["left", "right"] (defScope sMinus) := ⟨rfl, rfl, rfl, by decide +kernel, rfl, by decide +kernel, by decide +kernel⟩
theorem ok_minus (D : Dx K mg "minus" sMinus ["left", "right"]) (C : Fk P w K mg base 3 "plus" ["left", "right"] (sp2 Vagraa.add)) (C2 : Fk P w K mg base 1 "negative" ["value"] spNeg) : Fk P w K mg base 4 "minus" ["left", "right"] (sp2 Vagraa.sub) := by
  refine D.ok scMinus (fun vs H Q E h => ?_) (fun f cdv A outer s H vs Q E hr h => ?_)
  · obtain ⟨a, b, x, y, rfl, _⟩ := h
    rfl
  · obtain ⟨a, b, x, y, rfl, ha, hb, fx, fy, k⟩ := h
    refine ⟨_, pss_one (ps_ret (pcall C hr (pa_cons (pv 0) (pa_cons (pcall C2 (hr.mono (by decide)) (pa_cons (pv 1) pa_nil)) pa_nil)))), ?_⟩
    refine ⟨_, rfl, _, rfl, b, y, rfl, hb, fun H1 p s1 hp => ?_⟩
    refine ⟨a, p, x, Vagraa.neg y, rfl, s1 _ _ ha, hp, fx, SC.neg_fit fy, fun H2 q s2 hq => k H2 q (s1.trans s2) hq⟩
def spDiv : Sp := fun vs H Q _ => ∃ (a b : Addr) (x y : Frac), vs = [.ref a, .ref b] ∧ FrA H a x ∧ FrA H b y ∧ SC.Fit x ∧ SC.Fit y ∧ RetO H (if isZero y = true then none else some (frv (Vagraa.div x y))) Q
theorem scDiv : FnScope ["left", "right"] ["left", "right"] (defScope sDiv) := ⟨rfl, rfl, rfl, by decide +kernel, rfl, by decide +kernel, by decide +kernel⟩
theorem ok_div (D : Dx K mg "divided" sDiv ["left", "right"]) (C : Fk P w K mg base 2 "lowest" ["top", "bottom"] spLow) : Fk P w K mg base 3 "divided" ["left", "right"] spDiv := by
  refine D.ok scDiv (fun vs H Q E h => ?_) (fun f cdv A outer s H vs Q E hr h => ?_)
  · obtain ⟨a, b, x, y, rfl, _⟩ := h
    rfl
  · obtain ⟨a, b, x, y, rfl, ha, hb, fx, fy, k⟩ := h
    refine ⟨_, pss_cons (ps_if (pt_cmpR op_eq (pe_ix ix_tup (pv 1) pe_int (fun _ _ => rfl)) pe_int (nomark _)) (pss_one (ps_ret pe_non)) pss_nil)
      (pss_one (ps_ret (pcall C hr (pa_cons (pe_op op_mulB (pe_ix ix_tup (pv 0) pe_int (fun _ _ => rfl)) (pe_ix ix_tup (pv 1) pe_int (fun _ _ => rfl)))
      (pa_cons (pe_op op_mulB (pe_ix ix_tup (pv 0) pe_int (fun _ _ => rfl)) (pe_ix ix_tup (pv 1) pe_int (fun _ _ => rfl))) pa_nil))))), ?_⟩
    refine ⟨_, rfl, b, _, _, _, rfl, rfl, SqT.of hb, at0, rfl, _, rfl, ite2 (fun h => ?_) (fun h => ?_)⟩
    · have e : y.num = 0 := V.int.inj (of_decide_eq_true h)
      have hz : isZero y = true := decide_eq_true e
      rw [if_pos hz] at k
      exact k H (Same.refl H)
    · have e : y.num ≠ 0 := fun q => h (decide_eq_true (by rw [q]))
      have hz : ¬ isZero y = true := fun q => e (of_decide_eq_true q)
      rw [if_neg hz] at k
      have ne : (x.den : Int) * y.num ≠ 0 := Int.mul_ne_zero (by have := fx.1; omega) e
      have big : ((x.den : Int) * y.num).natAbs < 2 ^ 1000 := Nat.lt_of_lt_of_le (SC.big_mul (j := 200) (k := 200) (by rw [Int.natAbs_natCast]; exact fx.den) fy.num) (Nat.pow_le_pow_right (by decide) (by decide))
      refine ⟨_, rfl, a, _, _, _, rfl, rfl, SqT.of ha, at0, _, rfl, b, _, _, _, rfl, rfl, SqT.of hb, at1, _, _, rfl, rfl, ⟨(fit_big fx).1, (fit_big fy).2⟩, ?_⟩
      refine ⟨_, rfl, a, _, _, _, rfl, rfl, SqT.of ha, at1, _, rfl, b, _, _, _, rfl, rfl, SqT.of hb, at0, _, _, rfl, rfl, ⟨(fit_big fx).2, (fit_big fy).1⟩, ?_⟩
      refine ⟨_, _, rfl, ne, big, ?_⟩
      rw [SC.div_low x fx.1 e]
      exact k
end
end SD
set_option maxHeartbeats 2000000
namespace SD
open PySem PySem.Spec PyProof.Rows L2
open Vagraa (Frac frac zero one isZero weight)
open VagraLine (Line)
open Vagral (Mode)
section
variable {P : Program} {w : World} {K : PySem.W.Frag} {mg : Str → Option Value} {base : Heap}
/-! ### linecode.py -/
abbrev sIsOp : Stmt := top 21
abbrev sUsed : Stmt := top 22
abbrev sRepl : Stmt := top 23
abbrev sRdC : Stmt := top 24
abbrev sRdL : Stmt := top 25
abbrev sRdLs : Stmt := top 26
abbrev sRow : Stmt := top 27
abbrev sEarly : Stmt := top 28
abbrev sOpV : Stmt := top 29
abbrev sDepth : Stmt := top 30
abbrev sCnt : Stmt := top 31
/-- the numbers of the file's top, and Python's own names -/
structure Glo (K : PySem.W.Frag) (mg : Str → Option Value) : Prop where
  mostW : GI mg "MOST_WEIGHT" 200
  input : GI mg "INPUT" 0
  const : GI mg "CONSTANT" 1
  sum : GI mg "SUM" 2
  diff : GI mg "DIFFERENCE" 3
  prod : GI mg "PRODUCT" 4
  quot : GI mg "QUOTIENT" 5
  nega : GI mg "NEGATIVE" 6
  mostL : GI mg "MOST_LINES" 80
  mostI : GI mg "MOST_INPUTS" 12
  isLine : GI mg "IS_LINE" 7
  share : GI mg "SHARE" 1
  fold : GI mg "FOLD" 2
  ident : GI mg "IDENTITIES" 4
  dead : GI mg "LEAVE_OUT_DEAD" 8
  mostM : GI mg "MOST_MODE" 15
  gone : GI mg "GONE" (-1)
  lens : ∃ La, mg "LENGTHS" = some (.ref La) ∧ ∀ H : Hp, SqT K H La (SC.lens.map V.int)
  nAbs : mg "abs" = none
  nLen : mg "len" = none
  nMax : mg "max" = none
  nMin : mg "min" = none
  nAny : mg "any" = none
  nTuple : mg "tuple" = none
  nRange : mg "range" = none
  nEnum : mg "enumerate" = none
  nZip : mg "zip" = none
theorem boot_tuple' : bootBuiltins "tuple" = some (.type "tuple") := by decide +kernel
theorem boot_min' : bootBuiltins "min" = some (.builtin "min") := by decide +kernel
theorem lv_kd (l : Line) : ∃ r, lv l = .int (SC.kd l) :: r := by
  obtain ⟨r, e⟩ := SC.told_kd l
  exact ⟨r.map V.int, by unfold lv; rw [e]; rfl⟩
theorem lv_len (l : Line) : (lv l).length ≤ 3 := by
  unfold lv
  rw [List.length_map]
  rcases SC.told_len l with q | q <;> omega
def spIsOp : Sp := fun vs H Q _ => ∃ (a : Addr) (k : Int) (r : List V), vs = [.ref a] ∧ H a = some (.tup (.int k :: r)) ∧ Q (.bl (SC.opK k)) H
theorem scIsOp : FnScope ["line"] ["line"] (defScope sIsOp) := ⟨rfl, rfl, rfl, by decide +kernel, rfl, by decide +kernel, by decide +kernel⟩
theorem ok_isOp (T : Glo K mg) (D : Dx K mg "is_operation" sIsOp ["line"]) : Fk P w K mg base 1 "is_operation" ["line"] spIsOp := by
  refine D.ok scIsOp (fun vs H Q E h => ?_) (fun f cdv A outer s H vs Q E hr h => ?_)
  · obtain ⟨a, k, r, rfl, _⟩ := h
    rfl
  · obtain ⟨a, n, r, rfl, ha, k⟩ := h
    refine ⟨_, pss_one (ps_ret (pe_chain op_le op_le (pgi T.sum) (pe_ix ix_tup (pv 0) pe_int (fun _ _ => rfl)) (pgi T.nega))), ?_⟩
    refine ⟨_, rfl, a, _, _, _, rfl, rfl, SqT.of ha, at0, _, _, rfl, rfl, _, rfl, ite2 (fun h => ?_) (fun h => ?_)⟩
    · refine ⟨_, _, rfl, rfl, ?_⟩
      unfold SC.opK at k
      rw [h, Bool.true_and] at k
      exact k
    · unfold SC.opK at k
      rw [Bool.eq_false_iff.mpr h, Bool.false_and] at k
      exact k
def spUsed : Sp := fun vs H Q _ => ∃ (a : Addr) (l : Line), vs = [.ref a] ∧ LnA H a l ∧ RetT H (nats l.uses) Q
theorem scUsed : FnScope ["line"] ["line"] (defScope sUsed) := ⟨rfl, rfl, rfl, by decide +kernel, rfl, by decide +kernel, by decide +kernel⟩
theorem cut1 {l : Line} (h : l.isOp = true) : cutV (lv l) (some 1) none = nats l.uses ∧ ¬ (HT.sIx (lv l).length 0 (some 1) = 0 ∧ HT.sIx (lv l).length (lv l).length none = (lv l).length) := by
  cases l <;> first | (cases h; done) | exact ⟨rfl, fun q => absurd q.1 (show ¬ ((1 : Nat) = 0) by decide)⟩
theorem ok_used (D : Dx K mg "used_lines" sUsed ["line"]) (C : Fk P w K mg base 1 "is_operation" ["line"] spIsOp) : Fk P w K mg base 2 "used_lines" ["line"] spUsed := by
  refine D.ok scUsed (fun vs H Q E h => ?_) (fun f cdv A outer s H vs Q E hr h => ?_)
  · obtain ⟨a, l, rfl, _⟩ := h
    rfl
  · obtain ⟨a, l, rfl, ha, k⟩ := h
    refine ⟨_, pss_one (ps_ret (pe_ifExp (pt_val (pcall C hr (pa_cons (pv 0) pa_nil))) (pe_slice sl_tup (pv 0) (po_some pe_int) po_none) (pe_tup pa_nil))), ?_⟩
    obtain ⟨r, er⟩ := lv_kd l
    refine ⟨_, rfl, a, _, r, rfl, (by rw [← er]; exact ha), _, rfl, ite2 (fun h => ?_) (fun h => ?_)⟩
    · rw [SC.opK_kd] at h
      obtain ⟨e1, e2⟩ := cut1 h
      refine ⟨_, rfl, _, rfl, a, _, rfl, SqT.of ha, e2, fun p hp => ?_⟩
      exact k _ p (same_new hp) (by rw [upd_same, e1])
    · rw [SC.opK_kd] at h
      refine ⟨Nat.zero_le _, fun p hp => ?_⟩
      exact k _ p (same_new hp) (by rw [upd_same, SC.uses_no (Bool.eq_false_iff.mpr h)]; rfl)
def spRepl (K : PySem.W.Frag) : Sp := fun vs H Q _ => ∃ (a n : Addr) (l : Line) (ns : List Int), vs = [.ref a, .ref n] ∧ LnA H a l ∧ SqL K H n (ns.map V.int) ∧ (∀ u ∈ l.uses, u < ns.length) ∧ RetT H ((SC.rep l ns).map V.int) Q
theorem scRepl : FnScope ["line", "numbers", "used"] ["line", "numbers"] (defScope sRepl) := ⟨rfl, rfl, rfl, by decide +kernel, rfl, by decide +kernel, by decide +kernel⟩
theorem uses_len (l : Line) : l.uses.length ≤ 2 := by cases l <;> simp [Line.uses]
theorem ok_repl (T : Glo K mg) (D : Dx K mg "with_lines_replaced" sRepl ["line", "numbers"]) (C : Fk P w K mg base 1 "is_operation" ["line"] spIsOp) (C2 : Fk P w K mg base 2 "used_lines" ["line"] spUsed) :
    Fk P w K mg base 3 "with_lines_replaced" ["line", "numbers"] (spRepl K) := by
  refine D.ok scRepl (fun vs H Q E h => ?_) (fun f cdv A outer s H vs Q E hr h => ?_)
  · obtain ⟨a, n, l, ns, rfl, _⟩ := h
    rfl
  · obtain ⟨a, n, l, ns, rfl, ha, hn, hu, k⟩ := h
    refine ⟨_, pss_cons (ps_if (pt_not (pt_val (pcall C (hr.mono (by decide)) (pa_cons (pv 0) pa_nil)))) (pss_one (ps_ret (pv 0))) pss_nil)
      (pss_one (ps_ret (pe_op op_catT (pe_tup (pa_cons (pe_ix ix_tup (pv 0) pe_int (fun _ _ => rfl)) pa_nil))
        (pe_callTy call_tuple_of rfl T.nTuple boot_tuple' (pa_cons (pe_lc rfl scRepl.nd (pi_tup (pcall C2 hr (pa_cons (pv 0) pa_nil))) (blkOk_by (own := [("used", 2)]) rfl)
          (fun _ _ _ _ _ => pg_name (i := 2) scRepl.nd rfl (Or.inl rfl)) (fun _ _ _ _ _ => pts_nil) (fun _ _ _ _ _ => pe_ix (r := rIxL K) ix_list (pv 1) (pv 2) (fun _ _ => rfl))) pa_nil))))), ?_⟩
    obtain ⟨r, er⟩ := lv_kd l
    refine ⟨_, rfl, a, _, r, rfl, (by rw [← er]; exact ha), _, rfl, ?_⟩
    rw [SC.opK_kd]
    refine ite2 (fun h => ?_) (fun h => ?_)
    · refine ⟨_, rfl, k H a (Same.refl H) ?_⟩
      rw [SC.rep_no (by simpa using h)]
      exact ha
    · have ho : l.isOp = true := by simpa using h
      refine ⟨_, rfl, a, _, _, _, rfl, rfl, SqT.of (by rw [← er]; exact ha), at0, by show 1 ≤ sizeLine; decide, fun p hp => ?_⟩
      have s1 : Same H (upd H p (.tup [.int (SC.kd l)])) := same_new hp
      refine ⟨_, rfl, a, l, rfl, s1 _ _ ha, fun H2 q s2 hq => ?_⟩
      refine ⟨q, rfl, ⟨_, SqT.of hq⟩, fun D hD => ?_⟩
      refine lc_mapT (xs := nats l.uses) (fun i => V.int (ns.getD (l.uses.getD i 0) 0)) hD hq (by unfold nats; rw [List.length_map]; exact Nat.le_trans (uses_len l) (by decide)) (fun i x H3 k3 hx s3 kk => ?_) (fun H3 s3 hD3 => ?_)
      · obtain ⟨u, hu1, rfl⟩ : ∃ u, l.uses[i]? = some u ∧ x = V.int (u : Int) := by
          unfold nats at hx
          rw [List.getElem?_map] at hx
          cases e : l.uses[i]? with
          | none => rw [e] at hx; cases hx
          | some u => rw [e] at hx; exact ⟨u, rfl, (Option.some.inj hx).symm⟩
        have hul := hu u (List.mem_of_getElem? hu1)
        refine ⟨rfl, _, rfl, _, rfl, n, _, _, _, rfl, rfl, s3.seq (s2.seq (s1.seq hn)), atI_nat (j := u) (v := V.int (ns.getD u 0)) ?_, ?_⟩
        · rw [List.getElem?_map, List.getElem?_eq_getElem hul, List.getD_eq_getElem?_getD, List.getElem?_eq_getElem hul]; rfl
        · have := kk H3 (Same.refl H3)
          rw [show l.uses.getD i 0 = u by rw [List.getD_eq_getElem?_getD, hu1]; rfl] at this
          exact this
      · have eD : (List.range (nats l.uses).length).map (fun i => V.int (ns.getD (l.uses.getD i 0) 0)) = (l.uses.map fun u => ns.getD u 0).map V.int := by
          rw [List.map_map, show (nats l.uses).length = l.uses.length by unfold nats; rw [List.length_map]]
          exact range_map_get fun i u e => by rw [List.getD_eq_getElem?_getD (l := l.uses), e]; rfl
        rw [eD] at hD3
        refine ⟨D, _, rfl, .inl ⟨SqL.of hD3, fun t ht => ?_⟩⟩
        have s4 : Same H (upd H3 t (.tup ((l.uses.map fun u => ns.getD u 0).map V.int))) := s1.trans (s2.trans (s3.trans (same_new ht)))
        refine ⟨p, t, _, _, rfl, rfl, SqT.of ((same_new ht) _ _ (s3 _ _ (s2 _ _ upd_same))), SqT.of upd_same, by simp, ?_, fun e0 => ?_, fun _ z hz => ?_⟩
        · rw [List.length_map, List.length_map]; exact Nat.le_trans (Nat.add_le_add_left (uses_len l) 1) (by decide)
        · exfalso
          have := congrArg List.length e0
          cases l <;> first | (cases ho; done) | (simp [Line.uses] at this)
        · refine k _ z (s4.trans (same_new hz)) ?_
          rw [upd_same, SC.rep_op ho]
          rfl
end
end SD
set_option maxHeartbeats 2000000
namespace SD
open PySem PySem.Spec PyProof.Rows L2
open Vagraa (Frac frac zero one isZero weight)
open VagraLine (Line)
open Vagral (Mode)
section
variable {P : Program} {w : World} {K : PySem.W.Frag} {mg : Str → Option Value} {base : Heap}
theorem low_pos {n d : Int} (h : ¬ d < 1) : SC.low n d = frac n d.toNat := by
  unfold SC.low
  rw [if_neg (by omega), show d.natAbs = d.toNat by omega]
def spRdC : Sp := fun vs H Q _ => ∃ (p : Addr) (n d : Int), vs = [.ref p] ∧ H p = some (.lst [.int n, .int d]) ∧ d.natAbs < 2 ^ 1000 ∧ RetO H ((if d < 1 then none else some (Line.num (frac n d.toNat))).map lv) Q
theorem scRdC : FnScope ["numbers"] ["numbers"] (defScope sRdC) := ⟨rfl, rfl, rfl, by decide +kernel, rfl, by decide +kernel, by decide +kernel⟩
theorem ok_rdC (T : Glo K mg) (D : Dx K mg "read_constant" sRdC ["numbers"]) (C : Fk P w K mg base 2 "lowest" ["top", "bottom"] spLow) : Fk P w K mg base 3 "read_constant" ["numbers"] spRdC := by
  refine D.ok scRdC (fun vs H Q E h => ?_) (fun f cdv A outer s H vs Q E hr h => ?_)
  · obtain ⟨p, n, d, rfl, _⟩ := h
    rfl
  · obtain ⟨p, n, d, rfl, hp, hB, k⟩ := h
    refine ⟨_, pss_cons (ps_if (pt_cmpR op_lt (pe_ix ix_list (pv 0) pe_int (fun _ _ => rfl)) pe_int (nomark _)) (pss_one (ps_ret pe_non)) pss_nil)
      (pss_one (ps_ret (pe_op op_catT (pe_tup (pa_cons (pgi T.const) pa_nil)) (pcall C hr (pa_cons (pe_ix ix_list (pv 0) pe_int (fun _ _ => rfl)) (pa_cons (pe_ix ix_list (pv 0) pe_int (fun _ _ => rfl)) pa_nil)))))), ?_⟩
    refine ⟨_, rfl, p, _, _, _, rfl, rfl, SqL.of hp, at1, _, _, rfl, rfl, _, rfl, ite2 (fun h => ?_) (fun h => ?_)⟩
    · rw [if_pos (of_decide_eq_true h)] at k
      exact k H (Same.refl H)
    · have hd : ¬ d < 1 := fun q => h (decide_eq_true q)
      rw [if_neg hd] at k
      refine ⟨by show 1 ≤ sizeLine; decide, fun q hq => ?_⟩
      have s1 : Same H (upd H q (.tup [.int 1])) := same_new hq
      refine ⟨_, rfl, p, _, _, _, rfl, rfl, SqL.of (s1 _ _ hp), at0, _, rfl, p, _, _, _, rfl, rfl, SqL.of (s1 _ _ hp), at1, n, d, rfl, by omega, hB, fun H2 r s2 hr2 => ?_⟩
      refine ⟨q, r, _, _, rfl, rfl, SqT.of (s2 _ _ upd_same), SqT.of hr2, by simp, by show 3 ≤ sizeLine; decide, fun e => (by cases e), fun _ z hz => ?_⟩
      refine k _ z (s1.trans (s2.trans (same_new hz))) ?_
      rw [upd_same, low_pos hd]
      rfl
theorem cut_mid {ns : List Int} {a L : Nat} (ha : a < ns.length) (hL : 1 ≤ L) : cutV (ns.map V.int) (some ((a : Int) + 1)) (some ((a : Int) + (L : Int))) = ((ns.drop (a + 1)).take (L - 1)).map V.int := by
  unfold cutV
  rw [show ((a : Int) + 1) = ((a + 1 : Nat) : Int) by omega, show ((a : Int) + (L : Int)) = ((a + L : Nat) : Int) by omega, HT.sIx_nat, HT.sIx_nat, List.length_map, List.map_take, List.map_drop]
  rw [show min (a + 1) ns.length = a + 1 by omega]
  by_cases h : a + L ≤ ns.length
  · rw [show min (a + L) ns.length - (a + 1) = L - 1 by omega]
  · rw [List.take_of_length_le (by rw [List.length_drop, List.length_map]; omega), List.take_of_length_le (by rw [List.length_drop, List.length_map]; omega)]
def spRdL (K : PySem.W.Frag) : Sp := fun vs H Q _ => ∃ (p : Addr) (ns : List Int) (a : Nat), vs = [.ref p, .int a] ∧ SqL K H p (ns.map V.int) ∧ a < ns.length ∧ (∀ z ∈ ns, z.natAbs ≤ 10 ^ 18) ∧ RetO H ((SC.rl (ns.drop a)).map lv) Q
theorem scRdL : FnScope ["row", "at", "kind", "numbers"] ["row", "at"] (defScope sRdL) := ⟨rfl, rfl, rfl, by decide +kernel, rfl, by decide +kernel, by decide +kernel⟩
theorem ok_rdL (T : Glo K mg) (D : Dx K mg "read_line" sRdL ["row", "at"]) (C : Fk P w K mg base 3 "read_constant" ["numbers"] spRdC) : Fk P w K mg base 4 "read_line" ["row", "at"] (spRdL K) := by
  obtain ⟨La, hm, hS⟩ := T.lens
  refine D.ok scRdL (fun vs H Q E h => ?_) (fun f cdv A outer s H vs Q E hr h => ?_)
  · obtain ⟨p, ns, a, rfl, _⟩ := h
    rfl
  · obtain ⟨p, ns, a, rfl, hp, ha, hB, k⟩ := h
    refine ⟨_, pss_cons (ps_set (i := 2) scRdL.nd rfl (Or.inl rfl) (pe_ix ix_list (pv 0) (pv 1) (fun _ _ => rfl)))
      (pss_cons (ps_if (PW.pt (pw_or (pt_cmpR op_lt (pv 2) pe_int (nomark _)) (pw_or1 (pt_cmpR op_ge (pv 2) (pe_callB call_len_seq rfl T.nLen PySem.boot_len (pa_cons (pe_glob (v := .ref La) rfl hm rfl) pa_nil)) (nomark _))))) (pss_one (ps_ret pe_non)) pss_nil)
      (pss_cons (ps_set (i := 3) scRdL.nd rfl (Or.inl rfl) (pe_slice sl_list (pv 0) (po_some (pe_op op_add (pv 1) pe_int)) (po_some (pe_op op_add (pv 1) (pe_ix ix_tup (pe_glob (v := .ref La) rfl hm rfl) (pv 2) (fun _ _ => rfl))))))
      (pss_cons (ps_if (pt_cmpR op_lt (pe_callB call_len_seq rfl T.nLen PySem.boot_len (pa_cons (pv 3) pa_nil)) (pe_op op_sub (pe_ix ix_tup (pe_glob (v := .ref La) rfl hm rfl) (pv 2) (fun _ _ => rfl)) pe_int) (nomark _)) (pss_one (ps_ret pe_non)) pss_nil)
      (pss_cons (ps_if (pt_cmpR op_eq (pv 2) (pgi T.const) (nomark _)) (pss_one (ps_ret (pcall C hr (pa_cons (pv 3) pa_nil)))) pss_nil)
      (pss_cons (ps_if (pt_cmpR op_lt (pe_callB (cr_min rfl) rfl T.nMin boot_min' (pa_cons (pv 3) pa_nil)) pe_int (nomark _)) (pss_one (ps_ret pe_non)) pss_nil)
      (pss_one (ps_ret (pe_op op_catT (pe_tup (pa_cons (pv 2) pa_nil)) (pe_callTy call_tuple_of rfl T.nTuple boot_tuple' (pa_cons (pv 3) pa_nil)))))))))), ?_⟩
    have hd : ns.drop a = ns[a] :: ns.drop (a + 1) := List.drop_eq_getElem_cons ha
    generalize hk : ns[a] = kd at hd
    rw [hd] at k
    refine ⟨_, rfl, _, rfl, p, _, _, V.int kd, rfl, rfl, hp, atI_nat (by rw [List.getElem?_map, List.getElem?_eq_getElem ha, hk]; rfl), ?_⟩
    have isN : ∀ {Q' : Option Line}, Q' = none → SC.rl (kd :: ns.drop (a + 1)) = Q' → ∀ H' : Hp, Same H H' → Q .non H' := fun e e2 H' s' => by
      rw [e2, e] at k
      exact k H' s'
    refine ⟨_, rfl, _, _, rfl, rfl, _, rfl, ite2 (fun h => iteT ?_) (fun h => ?_)⟩
    · exact isN rfl (SC.rl_bad (.inl (of_decide_eq_true h))) H (Same.refl H)
    have h0 : 0 ≤ kd := Int.not_lt.mp fun q => h (decide_eq_true q)
    refine ⟨_, rfl, La, _, rfl, .inr (hS H), _, _, rfl, rfl, _, rfl, ite2 (fun h => ?_) (fun h => ?_)⟩
    · exact isN rfl (SC.rl_bad (.inr (of_decide_eq_true h))) H (Same.refl H)
    have h7 : kd ≤ 6 := by have : ¬ (7 : Int) ≤ kd := fun q => h (decide_eq_true q)
                           omega
    have hL := SC.lens_get ⟨h0, h7⟩
    have hL1 : 1 ≤ SC.len kd := by unfold SC.len; split <;> omega
    have lat : ∀ H' : Hp, ∃ xs v, SqT K H' La xs ∧ atI xs kd = some v ∧ v = V.int (SC.len kd : Int) := fun H' =>
      ⟨_, _, hS H', at_of (j := kd.toNat) (by omega) (by rw [List.getElem?_map, hL]; rfl), rfl⟩
    obtain ⟨xs1, v1, l1, l2, rfl⟩ := lat H
    refine ⟨_, rfl, _, rfl, _, _, rfl, rfl, _, rfl, _, rfl, _, rfl, La, _, _, _, rfl, rfl, l1, l2, _, _, rfl, rfl, _, rfl, p, _, rfl, hp, fun q hq => ?_⟩
    have cm := cut_mid ha hL1
    have s1 : Same H (upd H q (.lst (((ns.drop (a + 1)).take (SC.len kd - 1)).map V.int))) := same_new hq
    generalize hH1 : upd H q (.lst (((ns.drop (a + 1)).take (SC.len kd - 1)).map V.int)) = H1 at s1
    have hq1 : H1 q = some (.lst (((ns.drop (a + 1)).take (SC.len kd - 1)).map V.int)) := by rw [← hH1]; exact upd_same
    rw [cm, hH1]
    obtain ⟨xs2, v2, m1, m2, rfl⟩ := lat H1
    refine ⟨_, rfl, q, _, rfl, .inl (SqL.of hq1), _, rfl, La, _, _, _, rfl, rfl, m1, m2, _, _, rfl, rfl, _, _, rfl, rfl, _, rfl, ite2 (fun h => ?_) (fun h => ?_)⟩
    · have hs := of_decide_eq_true h
      rw [List.length_map, List.length_take] at hs
      exact isN rfl (SC.rl_short ⟨h0, h7⟩ (by omega)) H1 s1
    have hlen : ¬ (ns.drop (a + 1)).length < SC.len kd - 1 := fun q => h (decide_eq_true (by rw [List.length_map, List.length_take]; omega))
    refine ⟨_, rfl, rfl, _, rfl, ite2 (fun h => ?_) (fun h => ?_)⟩
    · have e1 : kd = 1 := V.int.inj (of_decide_eq_true h)
      subst e1
      obtain ⟨n, d, e2, _, hdm, e3⟩ := SC.rl_num (r := ns.drop (a + 1)) hlen
      rw [e3] at k
      refine ⟨_, rfl, q, n, d, rfl, by rw [hq1, show SC.len 1 - 1 = 2 from rfl, e2]; rfl, Nat.lt_of_le_of_lt (hB d (List.mem_of_mem_drop hdm)) (Nat.lt_of_lt_of_le (show 10 ^ 18 < 2 ^ 60 by decide) (Nat.pow_le_pow_right (by decide) (by decide))), ?_⟩
      generalize (if d < 1 then none else some (Line.num (frac n d.toNat))) = o at k
      cases o with
      | none => exact fun H2 s2 => k H2 (s1.trans s2)
      | some l => exact fun H2 z s2 hz => k H2 z (s1.trans s2) hz
    have h1 : kd ≠ 1 := fun q => h (decide_eq_true (by rw [q]))
    obtain ⟨hpos, hcase⟩ := SC.rl_long ⟨h0, h7⟩ h1 hlen
    refine ⟨_, rfl, q, _, rfl, SqL.of hq1, hpos, fun m hm1 hm2 => ⟨_, _, rfl, rfl, _, rfl, ite2 (fun h => ?_) (fun h => ?_)⟩⟩
    · rcases hcase with ⟨_, e⟩ | ⟨hz, _⟩
      · exact isN rfl e H1 s1
      · have := hz m hm1
        have := of_decide_eq_true h
        omega
    · rcases hcase with ⟨⟨z, hz1, hz2⟩, e⟩ | ⟨_, l, e, et⟩
      · have := hm2 z hz1
        exact absurd (decide_eq_true (show m < 0 by omega)) h
      · rw [e] at k
        refine ⟨_, rfl, by show 1 ≤ sizeLine; decide, fun t ht => ?_⟩
        have s2 : Same H1 (upd H1 t (.tup [.int kd])) := same_new ht
        refine ⟨_, rfl, q, _, rfl, .inl ⟨SqL.of (s2 _ _ hq1), fun u hu => ?_⟩⟩
        have s3 := same_new (o := .tup (((ns.drop (a + 1)).take (SC.len kd - 1)).map V.int)) hu
        refine ⟨t, u, _, _, rfl, rfl, SqT.of (s3 _ _ upd_same), SqT.of upd_same, by simp, ?_, fun e0 => ?_, fun _ y hy => ?_⟩
        · rw [List.length_map]
          have : ([V.int kd] : List V).length + ((ns.drop (a + 1)).take (SC.len kd - 1)).length ≤ 3 := by
            rw [List.length_take]
            show 1 + _ ≤ 3
            have : SC.len kd ≤ 3 := by unfold SC.len; split <;> omega
            omega
          exact Nat.le_trans this (by decide)
        · exfalso
          have := congrArg List.length e0
          rw [List.length_map] at this
          simp only [List.length_nil] at this
          omega
        · refine k _ y (s1.trans (s2.trans (s3.trans (same_new hy)))) ?_
          rw [upd_same]
          show some (HO.tup (V.int kd :: ((ns.drop (a + 1)).take (SC.len kd - 1)).map V.int)) = some (HO.tup (l.told.map V.int))
          rw [et]
          rfl
end
end SD
set_option maxHeartbeats 2000000
namespace SD
open PySem PySem.Spec PyProof.Rows L2
open Vagraa (Frac frac zero one isZero weight)
open VagraLine (Line)
open Vagral (Mode)
section
variable {P : Program} {w : World} {K : PySem.W.Frag} {mg : Str → Option Value} {base : Heap}
/-! ### a list that grows -/
structure Gw (H0 H : Hp) (L : Addr) (xs : List V) : Prop where
  s : Same H0 H
  n : H0 L = none
  l : H L = some (.lst xs)
theorem Gw.same {H0 H H' : Hp} {L : Addr} {xs : List V} (g : Gw H0 H L xs) (s : Same H H') : Gw H0 H' L xs := ⟨g.s.trans s, g.n, s _ _ g.l⟩
theorem same_upd {H0 H : Hp} {L : Addr} {o : HO} (s : Same H0 H) (n : H0 L = none) : Same H0 (upd H L o) := fun b u e => by rw [upd_ne (ne_of_none e n)]; exact s _ _ e
theorem Gw.put {H0 H : Hp} {L : Addr} {xs : List V} (g : Gw H0 H L xs) (ys : List V) : Gw H0 (upd H L (.lst ys)) L ys := ⟨same_upd g.s g.n, g.n, upd_same⟩
theorem Gw.new {H : Hp} {L : Addr} {xs : List V} (h : H L = none) : Gw H (upd H L (.lst xs)) L xs := ⟨same_new h, h, upd_same⟩
theorem tup_upd {H : Hp} {a L : Addr} {o : HO} {xs ys : List V} (h : H a = some (.tup xs)) (hl : H L = some (.lst ys)) : (upd H L o) a = some (.tup xs) := by
  rw [upd_ne]
  · exact h
  · intro e; rw [e, hl] at h; cases h
theorem Lns.updL {H : Hp} {as : List Addr} {c : Cd} {L : Addr} {ys : List V} {o : HO} (h : Lns H as c) (hl : H L = some (.lst ys)) : Lns (upd H L o) as c := paired_imp (fun a l e => tup_upd e hl) h
theorem Lns.snoc {H : Hp} {as : List Addr} {c : Cd} {a : Addr} {l : Line} (h : Lns H as c) (r : LnA H a l) : Lns H (as ++ [a]) (c ++ [l]) := paired_snoc r h
theorem Lns.len {H : Hp} {as : List Addr} {c : Cd} (h : Lns H as c) : as.length = c.length := Paired.length h
theorem kd_rng (l : Line) : 0 ≤ SC.kd l ∧ SC.kd l ≤ 6 := by cases l <;> simp [SC.kd]
def RetC (H : Hp) (c : Cd) (Q : VK) : Prop := ∀ (H' : Hp) (p : Addr), Same H H' → H p = none → CodeAt H' p c → Q (.ref p) H'
def RetCo (H : Hp) (o : Option Cd) (Q : VK) : Prop := match o with
  | none => RetV H .non Q
  | some c => RetC H c Q
theorem map_snoc {α β : Type} (f : α → β) (l : List α) (a : α) : l.map f ++ [f a] = (l ++ [a]).map f := by rw [List.map_append]; rfl
theorem told2 (l : Line) : 2 ≤ l.told.length := by rcases SC.told_len l with q | q <;> omega
def spRdLs (K : PySem.W.Frag) : Sp := fun vs H Q _ => ∃ (p : Addr) (ns : List Int), vs = [.ref p] ∧ SqL K H p (ns.map V.int) ∧ (∀ z ∈ ns, z.natAbs ≤ 10 ^ 18) ∧ ns.length ≤ 400 ∧ RetCo H (SC.co ns) Q
theorem scRdLs : FnScope ["row", "lines", "at", "line"] ["row"] (defScope sRdLs) := ⟨rfl, rfl, rfl, by decide +kernel, rfl, by decide +kernel, by decide +kernel⟩
theorem ok_rdLs (T : Glo K mg) (D : Dx K mg "read_lines" sRdLs ["row"]) (C : Fk P w K mg base 4 "read_line" ["row", "at"] (spRdL K)) : Fk P w K mg base 5 "read_lines" ["row"] (spRdLs K) := by
  obtain ⟨La, hm, hS⟩ := T.lens
  refine D.ok scRdLs (fun vs H Q E h => ?_) (fun f cdv A outer s H vs Q E hr h => ?_)
  · obtain ⟨p, ns, rfl, _⟩ := h
    rfl
  · obtain ⟨p, ns, rfl, hp, hB, hlen, k⟩ := h
    refine ⟨_, pss_cons (ps_set (i := 1) scRdLs.nd rfl (Or.inl rfl) (pe_lst pa_nil)) (pss_cons (ps_set (i := 2) scRdLs.nd rfl (Or.inl rfl) pe_int)
      (pss_cons (ps_while PassesOwn.never (pt_cmpR op_lt (pv 2) (pe_callB call_len_seq rfl T.nLen PySem.boot_len (pa_cons (pv 0) pa_nil)) (nomark _))
        (pss_cons (ps_set (i := 3) scRdLs.nd rfl (Or.inl rfl) (pcall C hr (pa_cons (pv 0) (pa_cons (pv 2) pa_nil))))
        (pss_cons (ps_if (pt_cmpR op_isN (pv 3) pe_non (nomark _)) (pss_one (ps_ret pe_non)) pss_nil)
        (pss_cons (ps_expr (pe_bm PySem.F.plainAttrs_list PySem.F.slot_list_append PySem.F.type_list_append mt_append (pv 1) (pa_cons (pv 3) pa_nil)))
        (pss_one (ps_aug (i := 2) scRdLs.nd rfl (Or.inl rfl) (pe_ix ix_tup (pe_glob (v := .ref La) rfl hm rfl) (pe_ix ix_tup (pv 3) pe_int (fun _ _ => rfl)) (fun _ _ => rfl)) ip_add))))))
      (pss_one (ps_ret (pv 1))))), ?_⟩
    refine ⟨by show 0 ≤ sizeLine; decide, fun L hL => ?_⟩
    refine ⟨fun m σ Hc => ∃ (a : Nat) (as : List Addr) (c' : Cd) (x : Option V), m = ns.length - a ∧ a ≤ ns.length ∧ σ = [some (.ref p), some (.ref L), some (.int a), x] ∧ Gw H Hc L (as.map V.ref) ∧ Lns Hc as c' ∧ c'.length ≤ a ∧ SC.co ns = (SC.co (ns.drop a)).map (c' ++ ·), ⟨ns.length, 0, [], [], none, rfl, Nat.zero_le _, rfl, Gw.new hL, .nil, Nat.le_refl _, by rw [List.drop_zero]; cases SC.co ns <;> simp⟩, ?_⟩
    rintro m σ Hc ⟨a, as, c', x, rfl, ha, rfl, g, hl, hc, e0⟩
    refine ⟨_, rfl, _, rfl, p, _, rfl, .inl (g.s.seq hp), _, _, rfl, rfl, _, rfl, ite2 (fun h => ?_) (fun h => ?_)⟩
    · have ha' : a < ns.length := by have := of_decide_eq_true h; rw [List.length_map] at this; omega
      refine ⟨fun σ' Hc' => ∃ (a' : Nat) (as' : List Addr) (c2 : Cd) (x' : Option V), a < a' ∧ a' ≤ ns.length ∧ σ' = [some (.ref p), some (.ref L), some (.int a'), x'] ∧ Gw H Hc' L (as'.map V.ref) ∧ Lns Hc' as' c2 ∧ c2.length ≤ a' ∧ SC.co ns = (SC.co (ns.drop a')).map (c2 ++ ·), fun σ' H' ⟨a', as', c2, x', q0, q1, q2, q3, q4, q5, q6⟩ => ⟨ns.length - a', by omega, a', as', c2, x', rfl, q1, q2, q3, q4, q5, q6⟩, ?_⟩
      refine ⟨_, rfl, _, rfl, p, ns, a, rfl, g.s.seq hp, ha', hB, ?_⟩
      rw [SC.co_step ha'] at e0
      cases e : SC.rl (ns.drop a) with
      | none =>
        rw [e] at e0
        rw [e0] at k
        refine fun H2 s2 => ⟨_, rfl, rfl, _, rfl, iteT ?_⟩
        exact k H2 (g.s.trans s2)
      | some l =>
        rw [e] at e0
        refine fun H2 q s2 hq => ⟨_, rfl, rfl, _, rfl, ite2 (fun h => ?_) (fun h => ?_)⟩
        · exact absurd (of_decide_eq_true h) (by intro z; cases z)
        have g2 := g.same s2
        have hl2 : Lns H2 as c' := hl.same s2
        have hal : a + l.told.length ≤ ns.length := by have := SC.rl_len e; rw [List.length_drop] at this; omega
        have h2 := told2 l
        refine ⟨_, rfl, .inl ⟨rfl, _, SqL.of g2.l⟩, _, rfl, L, _, _, rfl, rfl, g2.l, ?_, ?_⟩
        · rw [List.length_map, hl2.len]; exact Nat.lt_of_le_of_lt (show c'.length ≤ 400 by omega) (by decide)
        obtain ⟨r, er⟩ := lv_kd l
        have hq1 : LnA (upd H2 L (.lst (as.map V.ref ++ [.ref q]))) q l := tup_upd hq g2.l
        have hq2 := hq1
        unfold LnA at hq2
        rw [er] at hq2
        refine ⟨_, rfl, _, rfl, q, _, _, _, rfl, rfl, SqT.of hq2, at0, La, _, _, V.int (SC.len (SC.kd l) : Int), rfl, rfl, hS _, at_of (j := (SC.kd l).toNat) (by have := kd_rng l; omega) (by rw [List.getElem?_map, SC.lens_get (kd_rng l)]; rfl), _, _, rfl, rfl, ?_⟩
        refine ⟨a + l.told.length, as ++ [q], c' ++ [l], _, by omega, hal, by rw [SC.len_told, Int.natCast_add]; rfl, ?_, ?_, by rw [List.length_append]; show c'.length + 1 ≤ _; omega, ?_⟩
        · rw [← map_snoc]; exact g2.put _
        · exact (hl2.updL g2.l).snoc hq1
        · rw [e0, Option.map_map]
          cases SC.co (ns.drop (a + l.told.length)) <;> simp
    · have ha' : ns.drop a = [] := List.drop_eq_nil_of_le (by have : ¬ (a : Int) < (ns.map V.int).length := fun q => h (decide_eq_true q)
                                                              rw [List.length_map] at this; omega)
      rw [ha', SC.co_nil] at e0
      have e1 : SC.co ns = some c' := by rw [e0]; simp
      rw [e1] at k
      exact ⟨_, rfl, k Hc L g.s g.n ⟨as, g.l, hl⟩⟩
end
end SD
set_option maxHeartbeats 2000000
namespace SD
open PySem PySem.Spec PyProof.Rows L2
open Vagraa (Frac frac zero one isZero weight)
open VagraLine (Line)
open Vagral (Mode)
section
variable {P : Program} {w : World} {K : PySem.W.Frag} {mg : Str → Option Value} {base : Heap}
/-! ### enumerate, zip -/
theorem for_enum {K : PySem.W.Frag} {a : Addr} {xs : List V} {g : TG} {tb : TS} {D : Ends} {σ : L2.St} {H : Hp} (Pv : Nat → L2.St → Hp → Prop) (h0 : Pv 0 σ H) (hl : ∀ i σ H, i ≤ xs.length → Pv i σ H → SqL K H a xs)
    (hs : ∀ i x σ H T, xs[i]? = some x → Pv i σ H → H T = none → g (.ref T) σ (upd H T (.tup [.int (i : Nat), x])) fun σ2 H2 => tb { D with nx := Pv (i + 1), ct := Pv (i + 1), bk := D.nx } σ2 H2) (hd : ∀ σ H, Pv xs.length σ H → D.nx σ H) :
    ∃ W : Nat → Nat → L2.St → Hp → Prop, (∃ m, W 0 m σ H) ∧ ∀ i m σ H, W i m σ H →
      ((Ite K a).stop i H ∧ D.nx σ H) ∨ ((Ite K a).go i H ∧ ∃ N : L2.St → Hp → Prop, (∀ σ' H', N σ' H' → ∃ m', m' < m ∧ W (i + 1) m' σ' H') ∧ ∀ x H', (Ite K a).yld i H x H' → g x σ H' fun σ2 H2 => tb { D with nx := N, ct := N, bk := D.nx } σ2 H2) := by
  refine ⟨fun i m σ H => m = xs.length - i ∧ i ≤ xs.length ∧ Pv i σ H, ⟨xs.length, by simp, Nat.zero_le _, h0⟩, ?_⟩
  rintro i m σ H ⟨rfl, hi, p⟩
  have q := hl i σ H hi p
  by_cases hlt : i < xs.length
  · refine .inr ⟨⟨xs, xs[i], q, by simp [hlt]⟩, Pv (i + 1), fun σ' H' p' => ⟨xs.length - (i + 1), by omega, rfl, hlt, p'⟩, fun v H' y => ?_⟩
    obtain ⟨T, x, rfl, hT, rfl, y⟩ := y
    exact hs i x σ H T (y xs q) p hT
  · have e : i = xs.length := by omega
    subst e
    exact .inl ⟨⟨xs, q, Nat.le_refl _⟩, hd σ H p⟩
theorem for_zip {K : PySem.W.Frag} {a b : Addr} {xs ys : List V} {g : TG} {tb : TS} {D : Ends} {σ : L2.St} {H : Hp} (Pv : Nat → L2.St → Hp → Prop) (hxy : xs.length = ys.length) (h0 : Pv 0 σ H) (hl : ∀ i σ H, i ≤ xs.length → Pv i σ H → SqL K H a xs ∧ SqL K H b ys)
    (hs : ∀ i x y σ H T, xs[i]? = some x → ys[i]? = some y → Pv i σ H → H T = none → g (.ref T) σ (upd H T (.tup [x, y])) fun σ2 H2 => tb { D with nx := Pv (i + 1), ct := Pv (i + 1), bk := D.nx } σ2 H2) (hd : ∀ σ H, Pv xs.length σ H → D.nx σ H) :
    ∃ W : Nat → Nat → L2.St → Hp → Prop, (∃ m, W 0 m σ H) ∧ ∀ i m σ H, W i m σ H →
      ((Itz K a b).stop i H ∧ D.nx σ H) ∨ ((Itz K a b).go i H ∧ ∃ N : L2.St → Hp → Prop, (∀ σ' H', N σ' H' → ∃ m', m' < m ∧ W (i + 1) m' σ' H') ∧ ∀ x H', (Itz K a b).yld i H x H' → g x σ H' fun σ2 H2 => tb { D with nx := N, ct := N, bk := D.nx } σ2 H2) := by
  refine ⟨fun i m σ H => m = xs.length - i ∧ i ≤ xs.length ∧ Pv i σ H, ⟨xs.length, by simp, Nat.zero_le _, h0⟩, ?_⟩
  rintro i m σ H ⟨rfl, hi, p⟩
  obtain ⟨q, q2⟩ := hl i σ H hi p
  by_cases hlt : i < xs.length
  · refine .inr ⟨⟨xs, ys, xs[i], ys[i]'(by omega), q, q2, by simp [hlt], by rw [List.getElem?_eq_getElem]⟩, Pv (i + 1), fun σ' H' p' => ⟨xs.length - (i + 1), by omega, rfl, hlt, p'⟩, fun v H' y => ?_⟩
    obtain ⟨T, x, z, rfl, hT, rfl, y, y2⟩ := y
    exact hs i x z σ H T (y xs q) (y2 ys q2) p hT
  · have e : i = xs.length := by omega
    subst e
    exact .inl ⟨⟨xs, ys, q, q2, .inl (Nat.le_refl _)⟩, hd σ H p⟩
/-! ### number_row -/
theorem told_snoc {c : Cd} {i : Nat} {l : Line} (h : c[i]? = some l) : VagraLine.told (c.take (i + 1)) = VagraLine.told (c.take i) ++ l.told := by
  rw [SC.take_snoc h]
  unfold VagraLine.told
  rw [List.flatMap_append]
  simp
theorem told_le (c : Cd) (i : Nat) : (VagraLine.told (c.take i)).length ≤ 3 * c.length := Nat.le_trans (SC.tolds_len _) (by rw [List.length_take]; omega)
def rowOf (c : Cd) : List Int := (c.length : Int) :: VagraLine.told c
def spRow : Sp := fun vs H Q _ => ∃ (p : Addr) (c : Cd), vs = [.ref p] ∧ CodeAt H p c ∧ c.length ≤ 400 ∧ RetL H ((rowOf c).map V.int) Q
theorem scRow : FnScope ["lines", "row", "line"] ["lines"] (defScope sRow) := ⟨rfl, rfl, rfl, by decide +kernel, rfl, by decide +kernel, by decide +kernel⟩
theorem ok_row (T : Glo K mg) (D : Dx K mg "number_row" sRow ["lines"]) : Fk P w K mg base 1 "number_row" ["lines"] spRow := by
  refine D.ok scRow (fun vs H Q E h => ?_) (fun f cdv A outer s H vs Q E hr h => ?_)
  · obtain ⟨p, c, rfl, _⟩ := h
    rfl
  · obtain ⟨p, c, rfl, ⟨as, hp, hl⟩, hlen, k⟩ := h
    refine ⟨_, pss_cons (ps_set (i := 1) scRow.nd rfl (Or.inl rfl) (pe_lst (pa_cons (pe_callB call_len_seq rfl T.nLen PySem.boot_len (pa_cons (pv 0) pa_nil)) pa_nil)))
      (pss_cons (ps_for PassesOwn.never rfl (pi_list (pv 0)) (pg_name (i := 2) scRow.nd rfl (Or.inl rfl)) (pss_one (ps_expr (pe_bm PySem.F.plainAttrs_list PySem.F.slot_list_extend PySem.F.type_list_extend mt_extT (pv 1) (pa_cons (pv 2) pa_nil)))))
      (pss_one (ps_ret (pv 1)))), ?_⟩
    refine ⟨_, rfl, p, _, rfl, .inl (SqL.of hp), by show 1 ≤ sizeLine; decide, fun R hR => ?_⟩
    refine ⟨_, rfl, p, rfl, ⟨_, SqL.of (same_new hR _ _ hp)⟩, for_list (xs := as.map V.ref) (fun i σ Hc => ∃ x, σ = [some (.ref p), some (.ref R), x] ∧ Gw H Hc R (((c.length : Int) :: VagraLine.told (c.take i)).map V.int)) ⟨none, ?_, ?_⟩ (fun i σ Hc _ ⟨x, e, g⟩ => SqL.of (g.s _ _ hp)) ?_ ?_⟩
    · rfl
    · rw [List.length_map, hl.len]; exact Gw.new hR
    · rintro i v σ Hc hv ⟨x, rfl, g⟩
      rw [List.getElem?_map] at hv
      cases ea : as[i]? with
      | none => rw [ea] at hv; cases hv
      | some a =>
        rw [ea] at hv
        cases hv
        have hi : i < c.length := by rw [← hl.len]; exact (List.getElem?_eq_some_iff.mp ea).1
        obtain ⟨a', ha', hla⟩ := paired_get hl (SC.get_lineAt hi)
        rw [ea] at ha'
        cases ha'
        refine ⟨_, rfl, .inl ⟨rfl, _, SqL.of g.l⟩, _, rfl, R, a, _, _, rfl, rfl, g.l, SqT.of (g.s _ _ hla), ?_, ?_⟩
        · have := told_le c i
          have := lv_len (Vagral.lineAt c i)
          rw [List.length_map, List.length_cons]
          exact Nat.le_trans (show _ ≤ 2000 by omega) (by decide)
        · refine ⟨_, rfl, ?_⟩
          have := g.put ((((c.length : Int) :: VagraLine.told (c.take i)).map V.int) ++ lv (Vagral.lineAt c i))
          unfold lv at this ⊢
          rw [← List.map_append, List.cons_append, ← told_snoc (SC.get_lineAt hi)] at this
          rw [← List.map_append, List.cons_append, ← told_snoc (SC.get_lineAt hi)]
          exact this
    · rintro σ Hc ⟨x, rfl, g⟩
      rw [List.length_map, hl.len, List.take_length] at g
      exact ⟨_, rfl, k Hc R g.s hR g.l⟩
/-! ### uses_only_earlier -/
def spEarly : Sp := fun vs H Q _ => ∃ (p : Addr) (c : Cd) (n : Nat), vs = [.ref p, .int n] ∧ CodeAt H p c ∧ c.length ≤ 400 ∧ RetV H (.bl (VagraLine.well n c)) Q
theorem scEarly : FnScope ["lines", "inputs", "at", "line"] ["lines", "inputs"] (defScope sEarly) := ⟨rfl, rfl, rfl, by decide +kernel, rfl, by decide +kernel, by decide +kernel⟩
theorem all_lt {us : List Nat} {i : Nat} : (us.all fun u => decide (u < i)) = true ↔ ∀ u ∈ us, u < i := by
  rw [List.all_eq_true]
  exact ⟨fun h u hu => of_decide_eq_true (h u hu), fun h u hu => decide_eq_true (h u hu)⟩
theorem mem_nats {us : List Nat} {m : Int} (h : m ∈ us.map fun (n : Nat) => (n : Int)) : ∃ u ∈ us, m = (u : Int) := by
  obtain ⟨u, hu, rfl⟩ := List.mem_map.mp h
  exact ⟨u, hu, rfl⟩
theorem nats_eq (us : List Nat) : nats us = (us.map fun (n : Nat) => (n : Int)).map V.int := by unfold nats; rw [List.map_map]; rfl
theorem and2 {c1 c2 : Bool} {A B U : Prop} (pre : c1 = true → (if c2 = true then A else B) → U) (hA : c1 = true → c2 = true → A) (hB : (c1 && c2) = false → B) : if c1 = true then U else (if false = true then A else B) := by
  cases c1 with
  | false => exact iteF (iteF (hB rfl))
  | true =>
    refine iteT (pre rfl ?_)
    cases c2 with
    | false => exact iteF (hB rfl)
    | true => exact iteT (hA rfl rfl)
theorem lv_two (l : Line) : ∃ x r, l.told = SC.kd l :: x :: r := by cases l <;> exact ⟨_, _, rfl⟩
theorem okl_eq {n i : Nat} {l : Line} {x : Int} {r : List Int} (h : l.told = SC.kd l :: x :: r) : SC.okl n i l = ((l.uses.all fun u => decide (u < i)) && !(decide (SC.kd l = 0) && decide ((n : Int) ≤ x))) := by
  cases l with
  | input k =>
    have e : (k : Int) = x := by simp [Line.told, SC.kd] at h; exact h.1
    subst e
    unfold SC.okl
    congr 1
    show decide (k < n) = _
    by_cases q : k < n
    · rw [decide_eq_true q, decide_eq_false (by omega : ¬ (n : Int) ≤ (k : Int))]; simp
    · rw [decide_eq_false q, decide_eq_true (by omega : (n : Int) ≤ (k : Int))]; simp [SC.kd]
  | _ => unfold SC.okl; congr 1
theorem dec_int {a b : Int} : decide (V.int a = V.int b) = decide (a = b) := by
  by_cases h : a = b
  · rw [decide_eq_true h, decide_eq_true (by rw [h])]
  · rw [decide_eq_false h, decide_eq_false (fun q => h (V.int.inj q))]
theorem ok_early (T : Glo K mg) (D : Dx K mg "uses_only_earlier" sEarly ["lines", "inputs"]) (C : Fk P w K mg base 2 "used_lines" ["line"] spUsed) : Fk P w K mg base 3 "uses_only_earlier" ["lines", "inputs"] spEarly := by
  refine D.ok scEarly (fun vs H Q E h => ?_) (fun f cdv A outer s H vs Q E hr h => ?_)
  · obtain ⟨p, c, n, rfl, _⟩ := h
    rfl
  · obtain ⟨p, c, n, rfl, ⟨as, hp, hl⟩, hlen, k⟩ := h
    refine ⟨_, pss_cons (ps_for PassesOwn.never rfl (pi_enum rfl T.nEnum (pa_cons (pv 0) pa_nil)) (pg_tup rfl (pgs_cons (pg_name (i := 2) scEarly.nd rfl (Or.inl rfl)) (pgs_cons (pg_name (i := 3) scEarly.nd rfl (Or.inl rfl)) pgs_nil)))
        (pss_cons (ps_if (PW.pt (pw_and (pt_cmpR op_eq (pe_ix ix_tup (pv 3) pe_int (fun _ _ => rfl)) (pgi T.input) (nomark _)) (pw_and1 (pt_cmpR op_ge (pe_ix ix_tup (pv 3) pe_int (fun _ _ => rfl)) (pv 1) (nomark _))))) (pss_one (ps_ret pe_bl)) pss_nil)
        (pss_one (ps_if (pt_cmpR op_ge (pe_maxD rfl rfl T.nMax (pa_cons (pcall C hr (pa_cons (pv 3) pa_nil)) pa_nil) (pe_un un_neg pe_int)) (pv 2) (nomark _)) (pss_one (ps_ret pe_bl)) pss_nil))))
      (pss_one (ps_ret pe_bl)), ?_⟩
    refine ⟨_, rfl, p, _, rfl, SqL.of hp, for_enum (xs := as.map V.ref) (fun i σ Hc => ∃ x y, σ = [some (.ref p), some (.int n), x, y] ∧ Same H Hc ∧ VagraLine.well n c = VagraLine.wellFrom n i (c.drop i)) ⟨none, none, rfl, Same.refl H, rfl⟩ (fun i σ Hc _ ⟨x, y, e, g, _⟩ => SqL.of (g _ _ hp)) ?_ ?_⟩
    · rintro i v σ Hc t hv ⟨x, y, rfl, g, ew⟩ ht
      rw [List.getElem?_map] at hv
      cases ea : as[i]? with
      | none => rw [ea] at hv; cases hv
      | some a =>
        rw [ea] at hv
        cases hv
        have hi : i < c.length := by rw [← hl.len]; exact (List.getElem?_eq_some_iff.mp ea).1
        obtain ⟨l, hci⟩ : ∃ l, c[i]? = some l := ⟨_, SC.get_lineAt hi⟩
        obtain ⟨a', ha', hla⟩ := paired_get hl hci
        rw [ea] at ha'
        cases ha'
        obtain ⟨z, r, er⟩ := lv_two l
        rw [SC.well_step hci, okl_eq er] at ew
        have s1 : Same H (upd Hc t (.tup [.int (i : Nat), .ref a])) := g.trans (same_new ht)
        generalize hH1 : upd Hc t (.tup [.int (i : Nat), .ref a]) = H1 at s1 ⊢
        have ht1 : H1 t = some (.tup [.int (i : Nat), .ref a]) := by rw [← hH1]; exact upd_same
        refine ⟨t, _, rfl, SqT.of ht1, rfl, _, _, rfl, _, _, rfl, rfl, ?_⟩
        have hla1 : H1 a = some (.tup (V.int (SC.kd l) :: V.int z :: r.map V.int)) := by
          have := s1 _ _ hla
          unfold lv at this
          rw [er] at this
          exact this
        refine ⟨_, rfl, a, _, _, _, rfl, rfl, SqT.of hla1, at0, rfl, _, rfl, and2 (fun _ x => ⟨_, rfl, a, _, _, _, rfl, rfl, SqT.of hla1, at1, _, rfl, _, _, rfl, rfl, _, rfl, x⟩) (fun h1 h2 => ?_) (fun hB => ?_)⟩
        · rw [dec_int] at h1
          have h2' : decide ((n : Int) ≤ z) = true := h2
          rw [h1, h2', Bool.and_self, Bool.not_true, Bool.and_false, Bool.false_and] at ew
          rw [ew] at k
          exact k H1 s1
        · rw [dec_int] at hB
          have hB' : (decide (SC.kd l = 0) && decide ((n : Int) ≤ z)) = false := hB
          rw [hB', Bool.not_false, Bool.and_true] at ew
          refine ⟨_, rfl, a, l, rfl, s1 _ _ hla, fun H2 q s2 hq => ⟨_, rfl, q, l.uses.map (fun (n : Nat) => (n : Int)), -1, rfl, rfl, .inr (SqT.of (by rw [← nats_eq]; exact hq)), fun e0 => ?_, fun m hm1 hm2 => ?_⟩⟩
          · have e0' : l.uses = [] := List.map_eq_nil_iff.mp e0
            refine ⟨_, rfl, _, _, rfl, rfl, _, rfl, ite2 (fun h => ?_) (fun h => ?_)⟩
            · exfalso
              have : (-1 : Int) ≥ (i : Int) := of_decide_eq_true h
              omega
            · refine ⟨_, _, rfl, s1.trans s2, ?_⟩
              rw [ew, e0']
              rfl
          · refine ⟨_, rfl, _, _, rfl, rfl, _, rfl, ite2 (fun h => ?_) (fun h => ?_)⟩
            · have hge : m ≥ (i : Int) := of_decide_eq_true h
              obtain ⟨u, hu, rfl⟩ := mem_nats hm1
              have : (l.uses.all fun u => decide (u < i)) = false := by
                rw [Bool.eq_false_iff]
                intro q
                have := all_lt.mp q u hu
                omega
              rw [this, Bool.false_and] at ew
              rw [ew] at k
              exact k H2 (s1.trans s2)
            · refine ⟨_, _, rfl, s1.trans s2, ?_⟩
              have : (l.uses.all fun u => decide (u < i)) = true := all_lt.mpr fun u hu => by
                have h1 := hm2 (u : Int) (List.mem_map.mpr ⟨u, hu, rfl⟩)
                have : ¬ m ≥ (i : Int) := fun q => h (decide_eq_true q)
                omega
              rw [ew, this, Bool.true_and]
    · rintro σ Hc ⟨x, y, rfl, g, ew⟩
      rw [List.length_map, hl.len, List.drop_length] at ew
      rw [ew] at k
      exact k Hc g
end
end SD
set_option maxHeartbeats 1000000
namespace SD
open PySem PySem.Spec PyProof.Rows L2
open Vagraa (Frac frac zero one isZero weight)
open VagraLine (Line)
open Vagral (Mode)
section
variable {P : Program} {w : World} {K : PySem.W.Frag} {mg : Str → Option Value} {base : Heap}
/-! ### operation_value -/
abbrev Frs (H : Hp) (as : List Addr) (fs : List Frac) : Prop := Paired (fun a f => FrA H a f) as fs
theorem Frs.same {H H' : Hp} {as : List Addr} {fs : List Frac} (h : Frs H as fs) (s : Same H H') : Frs H' as fs := paired_imp (fun a l e => s a _ e) h
theorem frs1 {H : Hp} {as : List Addr} {fs : List Frac} (h : Frs H as fs) (hn : fs.length = 1) : ∃ a x, as = [a] ∧ fs = [x] ∧ FrA H a x := by
  cases h with
  | nil => cases hn
  | cons r t =>
    cases t with
    | nil => exact ⟨_, _, rfl, rfl, r⟩
    | cons _ _ => simp at hn
theorem frs2 {H : Hp} {as : List Addr} {fs : List Frac} (h : Frs H as fs) (hn : fs.length = 2) : ∃ a b x y, as = [a, b] ∧ fs = [x, y] ∧ FrA H a x ∧ FrA H b y := by
  cases h with
  | nil => cases hn
  | cons r t =>
    obtain ⟨b, y, e1, e2, q⟩ := frs1 t (by simpa using hn)
    subst e1 e2
    exact ⟨_, b, _, y, rfl, rfl, r, q⟩
def Args (k : Int) (n : Nat) : Prop := (2 ≤ k ∧ k ≤ 5 ∧ n = 2) ∨ (k = 6 ∧ n = 1)
def spOpV (K : PySem.W.Frag) : Sp := fun vs H Q _ => ∃ (k : Int) (p : Addr) (as : List Addr) (fs : List Frac), vs = [.int k, .ref p] ∧ SqL K H p (as.map V.ref) ∧ Frs H as fs ∧ (∀ x ∈ fs, SC.Fit x) ∧ Args k fs.length ∧ RetO H ((SC.opv k fs).map frv) Q
theorem scOpV : FnScope ["kind", "values"] ["kind", "values"] (defScope sOpV) := ⟨rfl, rfl, rfl, by decide +kernel, rfl, by decide +kernel, by decide +kernel⟩
theorem int_eq {a b : Int} (h : decide (V.int a = V.int b) = true) : a = b := by rw [dec_int] at h; exact of_decide_eq_true h
theorem ok_opv (T : Glo K mg) (D : Dx K mg "operation_value" sOpV ["kind", "values"]) (Cp : Fk P w K mg base 3 "plus" ["left", "right"] (sp2 Vagraa.add)) (Cm : Fk P w K mg base 4 "minus" ["left", "right"] (sp2 Vagraa.sub))
    (Ct : Fk P w K mg base 3 "times" ["left", "right"] (sp2 Vagraa.mul)) (Cd : Fk P w K mg base 3 "divided" ["left", "right"] spDiv) (Cn : Fk P w K mg base 1 "negative" ["value"] spNeg) : Fk P w K mg base 5 "operation_value" ["kind", "values"] (spOpV K) := by
  refine D.ok scOpV (fun vs H Q E h => ?_) (fun f cdv A outer s H vs Q E hr h => ?_)
  · obtain ⟨k, p, as, fs, rfl, _⟩ := h
    rfl
  · obtain ⟨n, p, as, fs, rfl, hp, hf, hfit, ha, k⟩ := h
    refine ⟨_, pss_cons (ps_if (pt_cmpR op_eq (pv 0) (pgi T.sum) (nomark _)) (pss_one (ps_ret (pcall Cp (hr.mono (by decide)) (pa_cons (pe_ix ix_list (pv 1) pe_int (fun _ _ => rfl)) (pa_cons (pe_ix ix_list (pv 1) pe_int (fun _ _ => rfl)) pa_nil))))) pss_nil)
      (pss_cons (ps_if (pt_cmpR op_eq (pv 0) (pgi T.diff) (nomark _)) (pss_one (ps_ret (pcall Cm hr (pa_cons (pe_ix ix_list (pv 1) pe_int (fun _ _ => rfl)) (pa_cons (pe_ix ix_list (pv 1) pe_int (fun _ _ => rfl)) pa_nil))))) pss_nil)
      (pss_cons (ps_if (pt_cmpR op_eq (pv 0) (pgi T.prod) (nomark _)) (pss_one (ps_ret (pcall Ct (hr.mono (by decide)) (pa_cons (pe_ix ix_list (pv 1) pe_int (fun _ _ => rfl)) (pa_cons (pe_ix ix_list (pv 1) pe_int (fun _ _ => rfl)) pa_nil))))) pss_nil)
      (pss_cons (ps_if (pt_cmpR op_eq (pv 0) (pgi T.quot) (nomark _)) (pss_one (ps_ret (pcall Cd (hr.mono (by decide)) (pa_cons (pe_ix ix_list (pv 1) pe_int (fun _ _ => rfl)) (pa_cons (pe_ix ix_list (pv 1) pe_int (fun _ _ => rfl)) pa_nil))))) pss_nil)
      (pss_one (ps_ret (pcall Cn (hr.mono (by decide)) (pa_cons (pe_ix ix_list (pv 1) pe_int (fun _ _ => rfl)) pa_nil))))))), ?_⟩
    have two : n ≠ 6 → ∃ a b x y, as = [a, b] ∧ fs = [x, y] ∧ FrA H a x ∧ FrA H b y ∧ SC.Fit x ∧ SC.Fit y := fun h6 => by
      rcases ha with ⟨_, _, h2⟩ | ⟨h2, _⟩
      · obtain ⟨a, b, x, y, e1, e2, r1, r2⟩ := frs2 hf h2
        subst e1 e2
        exact ⟨a, b, x, y, rfl, rfl, r1, r2, hfit x (by simp), hfit y (by simp)⟩
      · exact absurd h2 h6
    refine ⟨_, rfl, rfl, _, rfl, ite2 (fun h => ?_) (fun h1 => ?_)⟩
    · have e := int_eq h
      subst e
      obtain ⟨a, b, x, y, rfl, rfl, h1, h2, f1, f2⟩ := two (by decide)
      exact ⟨_, rfl, p, _, _, _, rfl, rfl, hp, at0, _, rfl, p, _, _, _, rfl, rfl, hp, at1, a, b, x, y, rfl, h1, h2, f1, f2, k⟩
    refine ⟨_, rfl, rfl, _, rfl, ite2 (fun h => ?_) (fun h2 => ?_)⟩
    · have e := int_eq h
      subst e
      obtain ⟨a, b, x, y, rfl, rfl, h1, h2, f1, f2⟩ := two (by decide)
      exact ⟨_, rfl, p, _, _, _, rfl, rfl, hp, at0, _, rfl, p, _, _, _, rfl, rfl, hp, at1, a, b, x, y, rfl, h1, h2, f1, f2, k⟩
    refine ⟨_, rfl, rfl, _, rfl, ite2 (fun h => ?_) (fun h3 => ?_)⟩
    · have e := int_eq h
      subst e
      obtain ⟨a, b, x, y, rfl, rfl, h1, h2, f1, f2⟩ := two (by decide)
      exact ⟨_, rfl, p, _, _, _, rfl, rfl, hp, at0, _, rfl, p, _, _, _, rfl, rfl, hp, at1, a, b, x, y, rfl, h1, h2, f1, f2, k⟩
    refine ⟨_, rfl, rfl, _, rfl, ite2 (fun h => ?_) (fun h4 => ?_)⟩
    · have e := int_eq h
      subst e
      obtain ⟨a, b, x, y, rfl, rfl, h1, h2, f1, f2⟩ := two (by decide)
      refine ⟨_, rfl, p, _, _, _, rfl, rfl, hp, at0, _, rfl, p, _, _, _, rfl, rfl, hp, at1, a, b, x, y, rfl, h1, h2, f1, f2, ?_⟩
      have e : SC.opv 5 [x, y] = if isZero y = true then none else some (Vagraa.div x y) := rfl
      rw [e] at k
      by_cases q : isZero y = true
      · rw [if_pos q] at k ⊢; exact k
      · rw [if_neg q] at k ⊢; exact k
    rw [dec_int] at h1 h2 h3 h4
    have e6 : n = 6 := by
      rcases ha with ⟨q1, q2, _⟩ | ⟨q, _⟩
      · exfalso
        have : n = 2 ∨ n = 3 ∨ n = 4 ∨ n = 5 := by omega
        rcases this with q | q | q | q
        · exact h1 (decide_eq_true q)
        · exact h2 (decide_eq_true q)
        · exact h3 (decide_eq_true q)
        · exact h4 (decide_eq_true q)
      · exact q
    subst e6
    rcases ha with ⟨_, q, _⟩ | ⟨_, hn⟩
    · omega
    obtain ⟨a, x, e1, e2, r1⟩ := frs1 hf hn
    subst e1 e2
    exact ⟨_, rfl, p, _, _, _, rfl, rfl, hp, at0, a, x, rfl, r1, k⟩
/-! ### depth -/
def spDepth : Sp := fun vs H Q _ => ∃ (p : Addr) (c : Cd), vs = [.ref p] ∧ CodeAt H p c ∧ c.length ≤ 400 ∧ (∀ (i : Nat) (l : Line), c[i]? = some l → SC.Low i l) ∧ RetV H (.int (Vagral.deepest c : Nat)) Q
theorem scDepth : FnScope ["lines", "depths", "line", "below", "used"] ["lines"] (defScope sDepth) := ⟨rfl, rfl, rfl, by decide +kernel, rfl, by decide +kernel, by decide +kernel⟩
theorem isOp_uses {l : Line} (h : l.isOp = true) : l.uses ≠ [] := by cases l <;> first | (cases h; done) | simp [Line.uses]
theorem nats_get {us : List Nat} {i : Nat} (h : i < us.length) : (nats us)[i]? = some (V.int ((us.getD i 0 : Nat) : Int)) := by
  unfold nats
  rw [List.getElem?_map, List.getD_eq_getElem?_getD, List.getElem?_eq_getElem h]
  rfl
theorem nats_of {us : List Nat} {i : Nat} {x : V} (h : (nats us)[i]? = some x) : ∃ u, us[i]? = some u ∧ x = V.int (u : Int) := by
  unfold nats at h
  rw [List.getElem?_map] at h
  cases e : us[i]? with
  | none => rw [e] at h; cases h
  | some u => rw [e] at h; exact ⟨u, rfl, (Option.some.inj h).symm⟩
theorem nats_len (us : List Nat) : (nats us).length = us.length := by unfold nats; rw [List.length_map]
theorem nats_snoc (us : List Nat) (u : Nat) : nats us ++ [V.int (u : Int)] = nats (us ++ [u]) := by unfold nats; rw [List.map_append]; rfl
/-- the line at a place of a code's list -/
theorem ref_get {H : Hp} {as : List Addr} {c : Cd} {i : Nat} {v : V} (hl : Lns H as c) (h : (as.map V.ref)[i]? = some v) : ∃ a l, v = V.ref a ∧ c[i]? = some l ∧ LnA H a l := by
  rw [List.getElem?_map] at h
  cases ea : as[i]? with
  | none => rw [ea] at h; cases h
  | some a =>
    rw [ea] at h
    cases h
    have hi : i < c.length := by rw [← hl.len]; exact (List.getElem?_eq_some_iff.mp ea).1
    obtain ⟨a', ha', hla⟩ := paired_get hl (SC.get_lineAt hi)
    rw [ea] at ha'
    cases ha'
    exact ⟨a, _, rfl, SC.get_lineAt hi, hla⟩
theorem ok_depth (T : Glo K mg) (D : Dx K mg "depth" sDepth ["lines"]) (C : Fk P w K mg base 1 "is_operation" ["line"] spIsOp) (C2 : Fk P w K mg base 2 "used_lines" ["line"] spUsed) : Fk P w K mg base 3 "depth" ["lines"] spDepth := by
  refine D.ok scDepth (fun vs H Q E h => ?_) (fun f cdv A outer s H vs Q E hr h => ?_)
  · obtain ⟨p, c, rfl, _⟩ := h
    rfl
  · obtain ⟨p, c, rfl, ⟨as, hp, hl⟩, hlen, hlow, k⟩ := h
    refine ⟨_, pss_cons (ps_set (i := 1) scDepth.nd rfl (Or.inr rfl) (pe_lst pa_nil))
      (pss_cons (ps_for PassesOwn.never rfl (pi_list (pv 0)) (pg_name (i := 2) scDepth.nd rfl (Or.inl rfl))
        (pss_cons (ps_setLc (i := 3) rfl scDepth.nd rfl rfl (sw_true rfl rfl rfl rfl) (pi_tup (pcall C2 hr (pa_cons (pv 2) pa_nil))) (blkOk_by (own := [("used", 4)]) rfl)
          (fun _ _ _ _ _ => pg_name (i := 4) scDepth.nd rfl (Or.inl rfl)) (fun _ _ _ _ _ => pts_nil) (fun _ _ _ _ _ => pe_ix (r := rIxL K) ix_list (pv 1) (pv 4) (fun _ _ => rfl)))
        (pss_one (ps_expr (pe_bm PySem.F.plainAttrs_list PySem.F.slot_list_append PySem.F.type_list_append mt_append (pv 1) (pa_cons (pe_ifExp (pt_val (pcall C (hr.mono (by decide)) (pa_cons (pv 2) pa_nil))) (pe_op op_add (pe_callB (cr_max rfl) rfl T.nMax boot_max' (pa_cons (pv 3) pa_nil)) pe_int) pe_int) pa_nil))))))
      (pss_one (ps_ret (pe_maxD rfl rfl T.nMax (pa_cons (pv 1) pa_nil) pe_int)))), ?_⟩
    refine ⟨by show 0 ≤ sizeLine; decide, fun R hR => ?_⟩
    refine ⟨_, rfl, p, rfl, ⟨_, SqL.of (same_new hR _ _ hp)⟩, for_list (xs := as.map V.ref) (fun i σ Hc => ∃ x y, σ = [some (.ref p), some (.ref R), x, y, none] ∧ Gw H Hc R (nats (SC.dp c i))) ⟨none, none, rfl, Gw.new hR⟩ (fun i σ Hc _ ⟨x, y, e, g⟩ => SqL.of (g.s _ _ hp)) ?_ ?_⟩
    · rintro i v σ Hc hv ⟨x, y, rfl, g⟩
      obtain ⟨a, l, rfl, hci, hla⟩ := ref_get hl hv
      have hi : i < c.length := (List.getElem?_eq_some_iff.mp hci).1
      have hdl := SC.dp_len (c := c) i (by omega)
      have hlw := hlow i l hci
      refine ⟨_, rfl, a, l, rfl, g.s _ _ hla, fun H2 q s2 hq => ⟨q, rfl, ⟨_, SqT.of hq⟩, fun D hD => ?_⟩⟩
      have g2 := g.same s2
      refine lc_mapT (xs := nats l.uses) (fun j => V.int (((SC.dp c i).getD (l.uses.getD j 0) 0 : Nat) : Int)) hD hq (by rw [nats_len]; exact Nat.le_trans (uses_len l) (by decide)) (fun j z H3 k3 hz s3 kk => ?_) (fun H3 s3 hD3 => ?_)
      · obtain ⟨u, hu1, rfl⟩ := nats_of hz
        have hul : u < (SC.dp c i).length := by rw [hdl]; exact hlw u (List.mem_of_getElem? hu1)
        have g3 := g2.same s3
        refine ⟨rfl, _, rfl, _, rfl, R, _, _, _, rfl, rfl, SqL.of g3.l, atI_nat (j := u) (nats_get hul), ?_⟩
        have := kk H3 (Same.refl H3)
        rw [show l.uses.getD j 0 = u by rw [List.getD_eq_getElem?_getD, hu1]; rfl] at this
        exact this
      · have g3 := g2.same s3
        have eD : (List.range (nats l.uses).length).map (fun j => V.int (((SC.dp c i).getD (l.uses.getD j 0) 0 : Nat) : Int)) = ((l.uses.map fun u => (SC.dp c i).getD u 0).map fun (n : Nat) => (n : Int)).map V.int := by
          rw [List.map_map, List.map_map, nats_len]
          exact range_map_get fun j u e => by rw [List.getD_eq_getElem?_getD (l := l.uses), e]; rfl
        rw [eD] at hD3
        have hlen' : (nats (SC.dp c i)).length < sizeLine := by rw [nats_len, hdl]; exact Nat.lt_of_le_of_lt (show i ≤ 400 by omega) (by decide)
        obtain ⟨r, er⟩ := lv_kd l
        have hla3 : H3 a = some (.tup (.int (SC.kd l) :: r)) := by rw [← er]; exact g3.s _ _ hla
        refine ⟨_, rfl, .inl ⟨rfl, _, SqL.of g3.l⟩, _, rfl, a, _, r, rfl, hla3, _, rfl, ?_⟩
        rw [SC.opK_kd]
        refine ite2 (fun h => ?_) (fun h => ?_)
        · refine ⟨_, rfl, D, _, rfl, SqL.of hD3, ?_, fun m hm1 hm2 => ⟨_, _, rfl, rfl, R, _, _, rfl, rfl, g3.l, hlen', ?_⟩⟩
          · rw [List.length_map, List.length_map]
            exact List.length_pos_iff.mpr (isOp_uses h)
          · obtain ⟨u, hu, rfl⟩ := mem_nats hm1
            have e : (u : Int) + 1 = ((SC.dp1 (SC.dp c i) l : Nat) : Int) := by
              rw [SC.dp1_op h, SC.fold_max_eq hu fun y hy => by have := hm2 (y : Int) (List.mem_map.mpr ⟨y, hy, rfl⟩); omega]
              omega
            refine ⟨_, _, rfl, ?_⟩
            show Gw H (upd H3 R (.lst (nats (SC.dp c i) ++ [V.int ((u : Int) + 1)]))) R (nats (SC.dp c (i + 1)))
            rw [e, SC.dp_succ hci, nats_snoc]
            exact g3.put _
        · refine ⟨R, _, _, rfl, rfl, g3.l, hlen', ?_⟩
          have e : (0 : Int) = ((SC.dp1 (SC.dp c i) l : Nat) : Int) := by unfold SC.dp1; rw [if_neg h]; rfl
          refine ⟨_, _, rfl, ?_⟩
          show Gw H (upd H3 R (.lst (nats (SC.dp c i) ++ [V.int (0 : Int)]))) R (nats (SC.dp c (i + 1)))
          rw [e, SC.dp_succ hci, nats_snoc]
          exact g3.put _
    · rintro σ Hc ⟨x, y, rfl, g⟩
      rw [List.length_map, hl.len, SC.dp_all, nats_eq] at g
      unfold Vagral.deepest at k
      refine ⟨_, rfl, R, _, 0, rfl, rfl, .inl (SqL.of g.l), fun e0 => ?_, fun m hm1 hm2 => ?_⟩
      · have e0' : Vagral.depths c = [] := List.map_eq_nil_iff.mp e0
        rw [e0'] at k
        exact k Hc g.s
      · obtain ⟨u, hu, rfl⟩ := mem_nats hm1
        rw [SC.fold_max_eq hu fun y hy => by have := hm2 (y : Int) (List.mem_map.mpr ⟨y, hy, rfl⟩); omega] at k
        exact k Hc g.s
/-! ### three_counts -/
def spCnt : Sp := fun vs H Q _ => ∃ (p : Addr) (c : Cd), vs = [.ref p] ∧ CodeAt H p c ∧ c.length ≤ 400 ∧ (∀ (i : Nat) (l : Line), c[i]? = some l → SC.Low i l) ∧ RetL H ([(c.length : Int), (VagraLine.ops c : Int), (Vagral.deepest c : Int)].map V.int) Q
theorem scCnt : FnScope ["lines", "operations", "line"] ["lines"] (defScope sCnt) := ⟨rfl, rfl, rfl, by decide +kernel, rfl, by decide +kernel, by decide +kernel⟩
theorem ok_cnt (T : Glo K mg) (D : Dx K mg "three_counts" sCnt ["lines"]) (C : Fk P w K mg base 1 "is_operation" ["line"] spIsOp) (C2 : Fk P w K mg base 3 "depth" ["lines"] spDepth) : Fk P w K mg base 4 "three_counts" ["lines"] spCnt := by
  refine D.ok scCnt (fun vs H Q E h => ?_) (fun f cdv A outer s H vs Q E hr h => ?_)
  · obtain ⟨p, c, rfl, _⟩ := h
    rfl
  · obtain ⟨p, c, rfl, ⟨as, hp, hl⟩, hlen, hlow, k⟩ := h
    refine ⟨_, pss_cons (ps_set (i := 1) scCnt.nd rfl (Or.inl rfl) (pe_callB call_len_seq rfl T.nLen PySem.boot_len (pa_cons (pe_lc rfl scCnt.nd (pi_list (pv 0)) (blkOk_by (own := [("line", 2)]) rfl)
          (fun _ _ _ _ _ => pg_name (i := 2) scCnt.nd rfl (Or.inl rfl)) (fun _ _ _ _ _ => pts_one (pt_val (pcall C (hr.mono (by decide)) (pa_cons (pv 2) pa_nil)))) (fun _ _ _ _ _ => pv 2)) pa_nil)))
      (pss_one (ps_ret (pe_lst (pa_cons (pe_callB call_len_seq rfl T.nLen PySem.boot_len (pa_cons (pv 0) pa_nil)) (pa_cons (pv 1) (pa_cons (pcall C2 hr (pa_cons (pv 0) pa_nil)) pa_nil)))))), ?_⟩
    refine ⟨_, rfl, p, rfl, ⟨_, SqL.of hp⟩, fun D hD => ?_⟩
    refine lc_list (xs := as.map V.ref) (fun i Hc => ∃ xs, Gw H Hc D xs ∧ xs.length = ((c.take i).filter Line.isOp).length) ⟨[], Gw.new hD, rfl⟩ (fun i Hc _ ⟨xs, g, _⟩ => SqL.of (g.s _ _ hp)) (fun i v Hc hv hP => ?_) (fun Hc hP => ?_)
    · obtain ⟨xs, g, hx⟩ := hP
      obtain ⟨a, l, rfl, hci, hla⟩ := ref_get hl hv
      obtain ⟨r, er⟩ := lv_kd l
      have hla3 : Hc a = some (.tup (.int (SC.kd l) :: r)) := by rw [← er]; exact g.s _ _ hla
      refine ⟨rfl, _, rfl, a, _, r, rfl, hla3, _, rfl, ?_⟩
      have hxl : xs.length ≤ 400 := by
        rw [hx]
        exact Nat.le_trans (List.length_filter_le _ _) (by rw [List.length_take]; omega)
      rw [SC.opK_kd]
      refine ite2 (fun h => ⟨_, rfl, xs, g.l, Nat.lt_of_le_of_lt hxl (by decide), _, g.put _, ?_⟩) (fun h => ⟨xs, g, ?_⟩)
      · rw [SC.take_snoc hci, List.filter_append, List.length_append, List.length_append, hx]
        simp [h]
      · rw [SC.take_snoc hci, List.filter_append, List.length_append, hx]
        simp [h]
    · obtain ⟨xs, g, hx⟩ := hP
      rw [List.length_map, hl.len, List.take_length] at hx
      refine ⟨D, xs, rfl, .inl (SqL.of g.l), ?_⟩
      refine ⟨_, rfl, p, _, rfl, .inl (SqL.of (g.s _ _ hp)), _, rfl, _, rfl, p, c, rfl, ⟨as, g.s _ _ hp, hl.same g.s⟩, hlen, hlow, fun H2 s2 => ⟨by show 3 ≤ sizeLine; decide, fun z hz => ?_⟩⟩
      refine k _ z (g.s.trans (s2.trans (same_new hz))) ((g.s.trans s2).free hz) ?_
      rw [upd_same, hx, List.length_map, hl.len]
      rfl
end
end SD
set_option maxHeartbeats 1000000
namespace SD
open PySem PySem.Spec PyProof.Rows L2
open Vagraa (Frac frac zero one isZero weight)
open VagraLine (Line)
open Vagral (Mode)
section
variable {P : Program} {w : World} {K : PySem.W.Frag} {mg : Str → Option Value} {base : Heap}
/-! ### identities.py -/
abbrev sWorth : Stmt := top 34
abbrev sIsNeg : Stmt := top 35
abbrev sSumI : Stmt := top 36
abbrev sDiffI : Stmt := top 37
abbrev sProdI : Stmt := top 38
abbrev sQuotI : Stmt := top 39
abbrev sNegI : Stmt := top 40
abbrev sIdent : Stmt := top 41
def dI (ns : List Int) : PyData := .tuple (ns.map .int)
theorem eqvAll_int : ∀ a b : List Int, PyData.eqvAll (a.map .int) (b.map .int) = decide (a = b)
  | [], [] => rfl
  | [], _ :: _ => rfl
  | _ :: _, [] => rfl
  | x :: a, y :: b => by
    show (PyData.eqv (.int x) (.int y) && PyData.eqvAll (a.map .int) (b.map .int)) = _
    rw [eqvAll_int a b]
    show ((x == y) && decide (a = b)) = _
    by_cases h : x = y
    · subst h
      by_cases h2 : a = b
      · subst h2; simp
      · simp [h2]
    · simp [h]
theorem eqv_int (a b : List Int) : PyData.eqv (dI a) (dI b) = decide (a = b) := eqvAll_int a b
theorem dpAll {H : Hp} : ∀ ns : List Int, DpAll K H (ns.map V.int) (ns.map .int)
  | [] => .nil
  | n :: ns => .cons (.int n) (dpAll ns)
theorem dp_of {H : Hp} {a : Addr} {ns : List Int} (h : H a = some (.tup (ns.map V.int))) : Dp K H (.ref a) (dI ns) := .tup (SqT.of h) (dpAll ns)
theorem shaped_told (l : Line) : SeqAt.shaped (dI l.told) = true := by cases l <;> rfl
theorem shaped3 (a b c : Int) : SeqAt.shaped (dI [a, b, c]) = true := rfl
theorem told_const {c : Cd} {i : Nat} {v : Int} : decide ((Vagral.lineAt c i).told = [1, v, 1]) = Vagral.isConst c i ⟨v, 1⟩ := by
  rw [SC.isConst_line]
  by_cases h : Vagral.lineAt c i = .num ⟨v, 1⟩
  · rw [decide_eq_true h, decide_eq_true (by rw [h]; rfl)]
  · rw [decide_eq_false h]
    exact decide_eq_false (fun q => h (SC.told_inj (b := .num ⟨v, 1⟩) q))
theorem kd_neg {c : Cd} {i : Nat} : decide (SC.kd (Vagral.lineAt c i) = 6) = (Vagral.negOf c i).isSome := by
  unfold Vagral.negOf
  cases Vagral.lineAt c i <;> rfl
def spWorth : Sp := fun vs H Q _ => ∃ (p : Addr) (c : Cd) (i : Nat) (v : Int), vs = [.ref p, .int i, .int v] ∧ CodeAt H p c ∧ i < c.length ∧ RetV H (.bl (Vagral.isConst c i ⟨v, 1⟩)) Q
theorem scWorth : FnScope ["made", "number", "value"] ["made", "number", "value"] (defScope sWorth) := ⟨rfl, rfl, rfl, by decide +kernel, rfl, by decide +kernel, by decide +kernel⟩
theorem ok_worth (T : Glo K mg) (D : Dx K mg "is_worth" sWorth ["made", "number", "value"]) : Fk P w K mg base 1 "is_worth" ["made", "number", "value"] spWorth := by
  refine D.ok scWorth (fun vs H Q E h => ?_) (fun f cdv A outer s H vs Q E hr h => ?_)
  · obtain ⟨p, c, i, v, rfl, _⟩ := h
    rfl
  · obtain ⟨p, c, i, v, rfl, hc, hi, k⟩ := h
    refine ⟨_, pss_one (ps_ret (pe_cmpR (op_eqD hr.units) (pe_ix ix_list (pv 0) (pv 1) (fun _ _ => rfl)) (pe_tup (pa_cons (pgi T.const) (pa_cons (pv 2) (pa_cons pe_int pa_nil)))) (nomark _))), ?_⟩
    obtain ⟨xs, a, h1, h2, h3⟩ := hc.get (K := K) (SC.get_lineAt hi)
    refine ⟨_, rfl, _, rfl, p, _, _, _, rfl, rfl, h1, h2, _, rfl, by show 3 ≤ sizeLine; decide, fun t ht => ?_⟩
    have s1 : Same H (upd H t (.tup [.int 1, .int v, .int 1])) := same_new ht
    refine ⟨_, _, dp_of (s1 _ _ h3), dp_of (ns := [1, v, 1]) upd_same, shaped_told _, shaped3 _ _ _, ?_⟩
    rw [eqv_int, told_const]
    exact k _ s1
def spIsNeg : Sp := fun vs H Q _ => ∃ (p : Addr) (c : Cd) (i : Nat), vs = [.ref p, .int i] ∧ CodeAt H p c ∧ i < c.length ∧ Q (.bl (Vagral.negOf c i).isSome) H
theorem scIsNeg : FnScope ["made", "number"] ["made", "number"] (defScope sIsNeg) := ⟨rfl, rfl, rfl, by decide +kernel, rfl, by decide +kernel, by decide +kernel⟩
theorem ok_isNeg (T : Glo K mg) (D : Dx K mg "is_negative" sIsNeg ["made", "number"]) : Fk P w K mg base 1 "is_negative" ["made", "number"] spIsNeg := by
  refine D.ok scIsNeg (fun vs H Q E h => ?_) (fun f cdv A outer s H vs Q E hr h => ?_)
  · obtain ⟨p, c, i, rfl, _⟩ := h
    rfl
  · obtain ⟨p, c, i, rfl, hc, hi, k⟩ := h
    refine ⟨_, pss_one (ps_ret (pe_cmpR op_eq (pe_ix ix_tup (pe_ix ix_list (pv 0) (pv 1) (fun _ _ => rfl)) pe_int (fun _ _ => rfl)) (pgi T.nega) (nomark _))), ?_⟩
    obtain ⟨xs, a, h1, h2, h3⟩ := hc.get (K := K) (SC.get_lineAt hi)
    obtain ⟨r, er⟩ := lv_kd (Vagral.lineAt c i)
    refine ⟨_, rfl, _, rfl, p, _, _, _, rfl, rfl, h1, h2, a, _, _, _, rfl, rfl, SqT.of (by rw [← er]; exact h3), at0, rfl, ?_⟩
    rw [dec_int, kd_neg]
    exact k
def spI2 (mk : Nat → Nat → Line) : Sp := fun vs H Q _ => ∃ (p : Addr) (c : Cd) (i j : Nat), vs = [.ref p, .int i, .int j] ∧ CodeAt H p c ∧ i < c.length ∧ j < c.length ∧ RetO H ((Vagral.identity c (mk i j)).map mdv) Q
theorem scSumI : FnScope ["made", "a", "b"] ["made", "a", "b"] (defScope sSumI) := ⟨rfl, rfl, rfl, by decide +kernel, rfl, by decide +kernel, by decide +kernel⟩
theorem ok_sumI (T : Glo K mg) (D : Dx K mg "sum_identity" sSumI ["made", "a", "b"]) (C : Fk P w K mg base 1 "is_worth" ["made", "number", "value"] spWorth) (C2 : Fk P w K mg base 1 "is_negative" ["made", "number"] spIsNeg) : Fk P w K mg base 2 "sum_identity" ["made", "a", "b"] (spI2 .add) := by
  refine D.ok scSumI (fun vs H Q E h => ?_) (fun f cdv A outer s H vs Q E hr h => ?_)
  · obtain ⟨p, c, i, j, rfl, _⟩ := h
    rfl
  · obtain ⟨p, c, i, j, rfl, hc, hi, hj, k⟩ := h
    refine ⟨_, pss_cons (ps_if (pt_val (pcall C hr (pa_cons (pv 0) (pa_cons (pv 1) (pa_cons pe_int pa_nil))))) (pss_one (ps_ret (pe_tup (pa_cons (pgi T.isLine) (pa_cons (pv 2) pa_nil))))) pss_nil)
      (pss_cons (ps_if (pt_val (pcall C hr (pa_cons (pv 0) (pa_cons (pv 2) (pa_cons pe_int pa_nil))))) (pss_one (ps_ret (pe_tup (pa_cons (pgi T.isLine) (pa_cons (pv 1) pa_nil))))) pss_nil)
      (pss_cons (ps_if (pt_val (pcall C2 hr (pa_cons (pv 0) (pa_cons (pv 2) pa_nil)))) (pss_one (ps_ret (pe_tup (pa_cons (pgi T.diff) (pa_cons (pv 1) (pa_cons (pe_ix ix_tup (pe_ix ix_list (pv 0) (pv 2) (fun _ _ => rfl)) pe_int (fun _ _ => rfl)) pa_nil)))))) pss_nil)
      (pss_cons (ps_if (pt_val (pcall C2 hr (pa_cons (pv 0) (pa_cons (pv 1) pa_nil)))) (pss_one (ps_ret (pe_tup (pa_cons (pgi T.diff) (pa_cons (pv 2) (pa_cons (pe_ix ix_tup (pe_ix ix_list (pv 0) (pv 1) (fun _ _ => rfl)) pe_int (fun _ _ => rfl)) pa_nil)))))) pss_nil)
      (pss_one (ps_ret pe_non))))), ?_⟩
    simp only [Vagral.identity] at k
    refine ⟨_, rfl, _, rfl, p, c, i, 0, rfl, hc, hi, fun H1 s1 => ⟨_, rfl, ite2 (fun h => ?_) (fun h1 => ?_)⟩⟩
    · rw [if_pos (show Vagral.isConst c i zero = true from h)] at k
      exact ⟨_, rfl, by show 2 ≤ sizeLine; decide, fun t ht => k _ t (s1.trans (same_new ht)) upd_same⟩
    rw [if_neg (show ¬ Vagral.isConst c i zero = true from h1)] at k
    refine ⟨_, rfl, _, rfl, p, c, j, 0, rfl, hc.same s1, hj, fun H2 s2 => ⟨_, rfl, ite2 (fun h => ?_) (fun h2 => ?_)⟩⟩
    · rw [if_pos (show Vagral.isConst c j zero = true from h)] at k
      exact ⟨_, rfl, by show 2 ≤ sizeLine; decide, fun t ht => k _ t (s1.trans (s2.trans (same_new ht))) upd_same⟩
    rw [if_neg (show ¬ Vagral.isConst c j zero = true from h2)] at k
    have s12 := s1.trans s2
    refine ⟨_, rfl, _, rfl, p, c, j, rfl, hc.same s12, hj, _, rfl, ite2 (fun h => ?_) (fun h3 => ?_)⟩
    · obtain ⟨q, eq⟩ := Option.isSome_iff_exists.mp h
      rw [eq] at k
      obtain ⟨xs, a, g1, g2, g3⟩ := (hc.same s12).get (K := K) (SC.get_lineAt hj)
      rw [SC.negOf_some eq] at g3
      exact ⟨_, rfl, _, rfl, _, rfl, p, _, _, _, rfl, rfl, g1, g2, a, _, _, _, rfl, rfl, SqT.of g3, at1, by show 3 ≤ sizeLine; decide, fun t ht => k _ t (s12.trans (same_new ht)) upd_same⟩
    have eq : Vagral.negOf c j = none := Option.not_isSome_iff_eq_none.mp h3
    rw [eq] at k
    refine ⟨_, rfl, _, rfl, p, c, i, rfl, hc.same s12, hi, _, rfl, ite2 (fun h => ?_) (fun h4 => ?_)⟩
    · obtain ⟨q, eq2⟩ := Option.isSome_iff_exists.mp h
      rw [eq2] at k
      obtain ⟨xs, a, g1, g2, g3⟩ := (hc.same s12).get (K := K) (SC.get_lineAt hi)
      rw [SC.negOf_some eq2] at g3
      exact ⟨_, rfl, _, rfl, _, rfl, p, _, _, _, rfl, rfl, g1, g2, a, _, _, _, rfl, rfl, SqT.of g3, at1, by show 3 ≤ sizeLine; decide, fun t ht => k _ t (s12.trans (same_new ht)) upd_same⟩
    rw [Option.not_isSome_iff_eq_none.mp h4] at k
    exact k _ s12
theorem scDiffI : FnScope ["made", "a", "b"] ["made", "a", "b"] (defScope sDiffI) := ⟨rfl, rfl, rfl, by decide +kernel, rfl, by decide +kernel, by decide +kernel⟩
theorem ok_diffI (T : Glo K mg) (D : Dx K mg "difference_identity" sDiffI ["made", "a", "b"]) (C : Fk P w K mg base 1 "is_worth" ["made", "number", "value"] spWorth) (C2 : Fk P w K mg base 1 "is_negative" ["made", "number"] spIsNeg) : Fk P w K mg base 2 "difference_identity" ["made", "a", "b"] (spI2 .sub) := by
  refine D.ok scDiffI (fun vs H Q E h => ?_) (fun f cdv A outer s H vs Q E hr h => ?_)
  · obtain ⟨p, c, i, j, rfl, _⟩ := h
    rfl
  · obtain ⟨p, c, i, j, rfl, hc, hi, hj, k⟩ := h
    refine ⟨_, (pss_cons (ps_if (pt_val (pcall C hr (pa_cons (pv 0) (pa_cons (pv 2) (pa_cons pe_int pa_nil))))) (pss_one (ps_ret (pe_tup (pa_cons (pgi T.isLine) (pa_cons (pv 1) pa_nil))))) pss_nil)
      (pss_cons (ps_if (pt_cmpR op_eq (pv 1) (pv 2) (nomark _)) (pss_one (ps_ret (pe_tup (pa_cons (pgi T.const) (pa_cons pe_int (pa_cons pe_int pa_nil)))))) pss_nil)
      (pss_cons (ps_if (pt_val (pcall C hr (pa_cons (pv 0) (pa_cons (pv 1) (pa_cons pe_int pa_nil))))) (pss_one (ps_ret (pe_tup (pa_cons (pgi T.nega) (pa_cons (pv 2) pa_nil))))) pss_nil)
      (pss_cons (ps_if (pt_val (pcall C2 hr (pa_cons (pv 0) (pa_cons (pv 2) pa_nil)))) (pss_one (ps_ret (pe_tup (pa_cons (pgi T.sum) (pa_cons (pv 1) (pa_cons (pe_ix ix_tup (pe_ix ix_list (pv 0) (pv 2) (fun _ _ => rfl)) pe_int (fun _ _ => rfl)) pa_nil)))))) pss_nil)
      (pss_one (ps_ret pe_non)))))), ?_⟩
    simp only [Vagral.identity] at k
    refine ⟨_, rfl, _, rfl, p, c, j, 0, rfl, hc, hj, fun H1 s1 => ⟨_, rfl, ite2 (fun h => ?_) (fun h1 => ?_)⟩⟩
    · have t1 := s1
      rw [if_pos (show Vagral.isConst c j zero = true from h)] at k
      exact ⟨_, rfl, by show 2 ≤ sizeLine; decide, fun t ht => k _ t (t1.trans (same_new ht)) upd_same⟩
    have t1 := s1
    rw [if_neg (show ¬ Vagral.isConst c j zero = true from h1)] at k
    refine ⟨_, rfl, _, rfl, rfl, _, rfl, ite2 (fun h => ?_) (fun he => ?_)⟩
    · have e : i = j := by have := int_eq h; omega
      rw [if_pos e] at k
      exact ⟨by show 3 ≤ sizeLine; decide, fun t ht => k _ t (t1.trans (same_new ht)) upd_same⟩
    have e : ¬ i = j := fun q => he (by rw [dec_int]; exact decide_eq_true (by rw [q]))
    rw [if_neg e] at k
    refine ⟨_, rfl, _, rfl, p, c, i, 0, rfl, (hc.same t1), hi, fun H2 s2 => ⟨_, rfl, ite2 (fun h => ?_) (fun h2 => ?_)⟩⟩
    · have t2 := t1.trans s2
      rw [if_pos (show Vagral.isConst c i zero = true from h)] at k
      exact ⟨_, rfl, by show 2 ≤ sizeLine; decide, fun t ht => k _ t (t2.trans (same_new ht)) upd_same⟩
    have t2 := t1.trans s2
    rw [if_neg (show ¬ Vagral.isConst c i zero = true from h2)] at k
    refine ⟨_, rfl, _, rfl, p, c, j, rfl, hc.same t2, hj, _, rfl, ite2 (fun h => ?_) (fun h3 => ?_)⟩
    · obtain ⟨q, eq⟩ := Option.isSome_iff_exists.mp h
      rw [eq] at k
      obtain ⟨xs, a, g1, g2, g3⟩ := (hc.same t2).get (K := K) (SC.get_lineAt hj)
      rw [SC.negOf_some eq] at g3
      exact ⟨_, rfl, _, rfl, _, rfl, p, _, _, _, rfl, rfl, g1, g2, a, _, _, _, rfl, rfl, SqT.of g3, at1, by show 3 ≤ sizeLine; decide, fun t ht => k _ t (t2.trans (same_new ht)) upd_same⟩
    rw [Option.not_isSome_iff_eq_none.mp h3] at k
    exact k _ t2
theorem scProdI : FnScope ["made", "a", "b"] ["made", "a", "b"] (defScope sProdI) := ⟨rfl, rfl, rfl, by decide +kernel, rfl, by decide +kernel, by decide +kernel⟩
theorem ok_prodI (T : Glo K mg) (D : Dx K mg "product_identity" sProdI ["made", "a", "b"]) (C : Fk P w K mg base 1 "is_worth" ["made", "number", "value"] spWorth) : Fk P w K mg base 2 "product_identity" ["made", "a", "b"] (spI2 .mul) := by
  refine D.ok scProdI (fun vs H Q E h => ?_) (fun f cdv A outer s H vs Q E hr h => ?_)
  · obtain ⟨p, c, i, j, rfl, _⟩ := h
    rfl
  · obtain ⟨p, c, i, j, rfl, hc, hi, hj, k⟩ := h
    refine ⟨_, (pss_cons (ps_if (PW.pt (pw_or (pt_val (pcall C hr (pa_cons (pv 0) (pa_cons (pv 1) (pa_cons pe_int pa_nil))))) (pw_or1 (pt_val (pcall C hr (pa_cons (pv 0) (pa_cons (pv 2) (pa_cons pe_int pa_nil)))))))) (pss_one (ps_ret (pe_tup (pa_cons (pgi T.const) (pa_cons pe_int (pa_cons pe_int pa_nil)))))) pss_nil)
      (pss_cons (ps_if (pt_val (pcall C hr (pa_cons (pv 0) (pa_cons (pv 1) (pa_cons pe_int pa_nil))))) (pss_one (ps_ret (pe_tup (pa_cons (pgi T.isLine) (pa_cons (pv 2) pa_nil))))) pss_nil)
      (pss_cons (ps_if (pt_val (pcall C hr (pa_cons (pv 0) (pa_cons (pv 2) (pa_cons pe_int pa_nil))))) (pss_one (ps_ret (pe_tup (pa_cons (pgi T.isLine) (pa_cons (pv 1) pa_nil))))) pss_nil)
      (pss_cons (ps_if (pt_val (pcall C hr (pa_cons (pv 0) (pa_cons (pv 1) (pa_cons (pe_un un_neg pe_int) pa_nil))))) (pss_one (ps_ret (pe_tup (pa_cons (pgi T.nega) (pa_cons (pv 2) pa_nil))))) pss_nil)
      (pss_cons (ps_if (pt_val (pcall C hr (pa_cons (pv 0) (pa_cons (pv 2) (pa_cons (pe_un un_neg pe_int) pa_nil))))) (pss_one (ps_ret (pe_tup (pa_cons (pgi T.nega) (pa_cons (pv 1) pa_nil))))) pss_nil)
      (pss_one (ps_ret pe_non))))))), ?_⟩
    simp only [Vagral.identity] at k
    refine ⟨_, rfl, _, rfl, p, c, i, 0, rfl, hc, hi, fun H1 s1 => ⟨_, rfl, ite2 (fun h => iteT ?_) (fun h1 => ?_)⟩⟩
    · rw [if_pos (Or.inl (show Vagral.isConst c i zero = true from h))] at k
      exact ⟨by show 3 ≤ sizeLine; decide, fun t ht => k _ t (s1.trans (same_new ht)) upd_same⟩
    refine ⟨_, rfl, _, rfl, p, c, j, 0, rfl, hc.same s1, hj, fun H2 s2 => ⟨_, rfl, ite2 (fun h => ?_) (fun h2 => ?_)⟩⟩
    · rw [if_pos (Or.inr (show Vagral.isConst c j zero = true from h))] at k
      have t2 := s1.trans s2
      exact ⟨by show 3 ≤ sizeLine; decide, fun t ht => k _ t (t2.trans (same_new ht)) upd_same⟩
    have t2 := s1.trans s2
    rw [if_neg (fun q => q.elim (show ¬ Vagral.isConst c i zero = true from h1) (show ¬ Vagral.isConst c j zero = true from h2))] at k
    refine ⟨_, rfl, _, rfl, p, c, i, 1, rfl, (hc.same t2), hi, fun H3 s3 => ⟨_, rfl, ite2 (fun h => ?_) (fun h3 => ?_)⟩⟩
    · have t3 := t2.trans s3
      rw [if_pos (show Vagral.isConst c i one = true from h)] at k
      exact ⟨_, rfl, by show 2 ≤ sizeLine; decide, fun t ht => k _ t (t3.trans (same_new ht)) upd_same⟩
    have t3 := t2.trans s3
    rw [if_neg (show ¬ Vagral.isConst c i one = true from h3)] at k
    refine ⟨_, rfl, _, rfl, p, c, j, 1, rfl, (hc.same t3), hj, fun H4 s4 => ⟨_, rfl, ite2 (fun h => ?_) (fun h4 => ?_)⟩⟩
    · have t4 := t3.trans s4
      rw [if_pos (show Vagral.isConst c j one = true from h)] at k
      exact ⟨_, rfl, by show 2 ≤ sizeLine; decide, fun t ht => k _ t (t4.trans (same_new ht)) upd_same⟩
    have t4 := t3.trans s4
    rw [if_neg (show ¬ Vagral.isConst c j one = true from h4)] at k
    refine ⟨_, rfl, _, rfl, _, rfl, p, c, i, -1, rfl, (hc.same t4), hi, fun H5 s5 => ⟨_, rfl, ite2 (fun h => ?_) (fun h5 => ?_)⟩⟩
    · have t5 := t4.trans s5
      rw [if_pos (show Vagral.isConst c i Vagral.minus1 = true from h)] at k
      exact ⟨_, rfl, by show 2 ≤ sizeLine; decide, fun t ht => k _ t (t5.trans (same_new ht)) upd_same⟩
    have t5 := t4.trans s5
    rw [if_neg (show ¬ Vagral.isConst c i Vagral.minus1 = true from h5)] at k
    refine ⟨_, rfl, _, rfl, _, rfl, p, c, j, -1, rfl, (hc.same t5), hj, fun H6 s6 => ⟨_, rfl, ite2 (fun h => ?_) (fun h6 => ?_)⟩⟩
    · have t6 := t5.trans s6
      rw [if_pos (show Vagral.isConst c j Vagral.minus1 = true from h)] at k
      exact ⟨_, rfl, by show 2 ≤ sizeLine; decide, fun t ht => k _ t (t6.trans (same_new ht)) upd_same⟩
    have t6 := t5.trans s6
    rw [if_neg (show ¬ Vagral.isConst c j Vagral.minus1 = true from h6)] at k
    exact k _ t6
theorem scQuotI : FnScope ["made", "a", "b"] ["made", "a", "b"] (defScope sQuotI) := ⟨rfl, rfl, rfl, by decide +kernel, rfl, by decide +kernel, by decide +kernel⟩
theorem ok_quotI (T : Glo K mg) (D : Dx K mg "quotient_identity" sQuotI ["made", "a", "b"]) (C : Fk P w K mg base 1 "is_worth" ["made", "number", "value"] spWorth) : Fk P w K mg base 2 "quotient_identity" ["made", "a", "b"] (spI2 .div) := by
  refine D.ok scQuotI (fun vs H Q E h => ?_) (fun f cdv A outer s H vs Q E hr h => ?_)
  · obtain ⟨p, c, i, j, rfl, _⟩ := h
    rfl
  · obtain ⟨p, c, i, j, rfl, hc, hi, hj, k⟩ := h
    refine ⟨_, (pss_cons (ps_if (pt_val (pcall C hr (pa_cons (pv 0) (pa_cons (pv 2) (pa_cons pe_int pa_nil))))) (pss_one (ps_ret pe_non)) pss_nil)
      (pss_cons (ps_if (pt_val (pcall C hr (pa_cons (pv 0) (pa_cons (pv 2) (pa_cons pe_int pa_nil))))) (pss_one (ps_ret (pe_tup (pa_cons (pgi T.isLine) (pa_cons (pv 1) pa_nil))))) pss_nil)
      (pss_cons (ps_if (pt_cmpR op_eq (pv 1) (pv 2) (nomark _)) (pss_one (ps_ret (pe_tup (pa_cons (pgi T.const) (pa_cons pe_int (pa_cons pe_int pa_nil)))))) pss_nil)
      (pss_cons (ps_if (pt_val (pcall C hr (pa_cons (pv 0) (pa_cons (pv 1) (pa_cons pe_int pa_nil))))) (pss_one (ps_ret (pe_tup (pa_cons (pgi T.const) (pa_cons pe_int (pa_cons pe_int pa_nil)))))) pss_nil)
      (pss_cons (ps_if (pt_val (pcall C hr (pa_cons (pv 0) (pa_cons (pv 2) (pa_cons (pe_un un_neg pe_int) pa_nil))))) (pss_one (ps_ret (pe_tup (pa_cons (pgi T.nega) (pa_cons (pv 1) pa_nil))))) pss_nil)
      (pss_one (ps_ret pe_non))))))), ?_⟩
    simp only [Vagral.identity] at k
    refine ⟨_, rfl, _, rfl, p, c, j, 0, rfl, hc, hj, fun H1 s1 => ⟨_, rfl, ite2 (fun h => ?_) (fun h1 => ?_)⟩⟩
    · have t1 := s1
      rw [if_pos (show Vagral.isConst c j zero = true from h)] at k
      exact k _ t1
    have t1 := s1
    rw [if_neg (show ¬ Vagral.isConst c j zero = true from h1)] at k
    refine ⟨_, rfl, _, rfl, p, c, j, 1, rfl, (hc.same t1), hj, fun H2 s2 => ⟨_, rfl, ite2 (fun h => ?_) (fun h2 => ?_)⟩⟩
    · have t2 := t1.trans s2
      rw [if_pos (show Vagral.isConst c j one = true from h)] at k
      exact ⟨_, rfl, by show 2 ≤ sizeLine; decide, fun t ht => k _ t (t2.trans (same_new ht)) upd_same⟩
    have t2 := t1.trans s2
    rw [if_neg (show ¬ Vagral.isConst c j one = true from h2)] at k
    refine ⟨_, rfl, _, rfl, rfl, _, rfl, ite2 (fun h => ?_) (fun he => ?_)⟩
    · have e : i = j := by have := int_eq h; omega
      rw [if_pos e] at k
      exact ⟨by show 3 ≤ sizeLine; decide, fun t ht => k _ t (t2.trans (same_new ht)) upd_same⟩
    have e : ¬ i = j := fun q => he (by rw [dec_int]; exact decide_eq_true (by rw [q]))
    rw [if_neg e] at k
    refine ⟨_, rfl, _, rfl, p, c, i, 0, rfl, (hc.same t2), hi, fun H3 s3 => ⟨_, rfl, ite2 (fun h => ?_) (fun h3 => ?_)⟩⟩
    · have t3 := t2.trans s3
      rw [if_pos (show Vagral.isConst c i zero = true from h)] at k
      exact ⟨by show 3 ≤ sizeLine; decide, fun t ht => k _ t (t3.trans (same_new ht)) upd_same⟩
    have t3 := t2.trans s3
    rw [if_neg (show ¬ Vagral.isConst c i zero = true from h3)] at k
    refine ⟨_, rfl, _, rfl, _, rfl, p, c, j, -1, rfl, (hc.same t3), hj, fun H4 s4 => ⟨_, rfl, ite2 (fun h => ?_) (fun h4 => ?_)⟩⟩
    · have t4 := t3.trans s4
      rw [if_pos (show Vagral.isConst c j Vagral.minus1 = true from h)] at k
      exact ⟨_, rfl, by show 2 ≤ sizeLine; decide, fun t ht => k _ t (t4.trans (same_new ht)) upd_same⟩
    have t4 := t3.trans s4
    rw [if_neg (show ¬ Vagral.isConst c j Vagral.minus1 = true from h4)] at k
    exact k _ t4
def spNegI : Sp := fun vs H Q _ => ∃ (p : Addr) (c : Cd) (i : Nat), vs = [.ref p, .int i] ∧ CodeAt H p c ∧ i < c.length ∧ RetO H ((Vagral.identity c (.neg i)).map mdv) Q
theorem scNegI : FnScope ["made", "a", "below"] ["made", "a"] (defScope sNegI) := ⟨rfl, rfl, rfl, by decide +kernel, rfl, by decide +kernel, by decide +kernel⟩
theorem ok_negI (T : Glo K mg) (D : Dx K mg "negative_identity" sNegI ["made", "a"]) : Fk P w K mg base 1 "negative_identity" ["made", "a"] spNegI := by
  refine D.ok scNegI (fun vs H Q E h => ?_) (fun f cdv A outer s H vs Q E hr h => ?_)
  · obtain ⟨p, c, i, rfl, _⟩ := h
    rfl
  · obtain ⟨p, c, i, rfl, hc, hi, k⟩ := h
    refine ⟨_, pss_cons (ps_set (i := 2) scNegI.nd rfl (Or.inl rfl) (pe_ix ix_list (pv 0) (pv 1) (fun _ _ => rfl)))
      (pss_cons (ps_if (pt_cmpR op_eq (pe_ix ix_tup (pv 2) pe_int (fun _ _ => rfl)) (pgi T.nega) (nomark _)) (pss_one (ps_ret (pe_tup (pa_cons (pgi T.isLine) (pa_cons (pe_ix ix_tup (pv 2) pe_int (fun _ _ => rfl)) pa_nil))))) pss_nil)
      (pss_cons (ps_if (pt_cmpR op_eq (pe_ix ix_tup (pv 2) pe_int (fun _ _ => rfl)) (pgi T.diff) (nomark _)) (pss_one (ps_ret (pe_tup (pa_cons (pgi T.diff) (pa_cons (pe_ix ix_tup (pv 2) pe_int (fun _ _ => rfl)) (pa_cons (pe_ix ix_tup (pv 2) pe_int (fun _ _ => rfl)) pa_nil)))))) pss_nil)
      (pss_one (ps_ret pe_non)))), ?_⟩
    obtain ⟨xs, a, h1, h2, h3⟩ := hc.get (K := K) (SC.get_lineAt hi)
    simp only [Vagral.identity] at k
    refine ⟨_, rfl, _, rfl, p, _, _, _, rfl, rfl, h1, h2, ?_⟩
    obtain ⟨r, er⟩ := lv_kd (Vagral.lineAt c i)
    have h3' : H a = some (.tup (.int (SC.kd (Vagral.lineAt c i)) :: r)) := by rw [← er]; exact h3
    refine ⟨_, rfl, a, _, _, _, rfl, rfl, SqT.of h3', at0, rfl, _, rfl, ite2 (fun h => ?_) (fun g1 => ?_)⟩
    · have e := int_eq h
      obtain ⟨q, eq⟩ : ∃ q, Vagral.negOf c i = some q := Option.isSome_iff_exists.mp (by rw [← kd_neg]; exact decide_eq_true e)
      rw [eq] at k
      rw [SC.negOf_some eq] at h3
      exact ⟨_, rfl, a, _, _, _, rfl, rfl, SqT.of h3, at1, by show 2 ≤ sizeLine; decide, fun t ht => k _ t (same_new ht) upd_same⟩
    have en : Vagral.negOf c i = none := by
      refine Option.not_isSome_iff_eq_none.mp fun q => g1 ?_
      rw [dec_int, kd_neg]
      exact q
    rw [en] at k
    refine ⟨_, rfl, a, _, _, _, rfl, rfl, SqT.of h3', at0, rfl, _, rfl, ite2 (fun h => ?_) (fun g2 => ?_)⟩
    · have e := int_eq h
      obtain ⟨x, ex⟩ : ∃ x, Vagral.subOf c i = some x := by
        unfold Vagral.subOf
        cases el : Vagral.lineAt c i <;> rw [el] at e <;> first | exact ⟨_, rfl⟩ | (simp [SC.kd] at e)
      rw [ex] at k
      rw [SC.subOf_some ex] at h3
      exact ⟨_, rfl, a, _, _, _, rfl, rfl, SqT.of h3, at2, _, rfl, a, _, _, _, rfl, rfl, SqT.of h3, at1, by show 3 ≤ sizeLine; decide, fun t ht => k _ t (same_new ht) upd_same⟩
    have es : Vagral.subOf c i = none := by
      unfold Vagral.subOf
      cases el : Vagral.lineAt c i <;> first | rfl | (exfalso; rw [el] at g2; exact g2 rfl)
    rw [es] at k
    exact k H (Same.refl H)
abbrev MdA (H : Hp) (a : Addr) (x : Vagral.Made) : Prop := H a = some (.tup (mdv x))
def LowM (c : Cd) : Vagral.Made → Prop
  | .old _ => True
  | .line l => SC.Low c.length l
def spIdent : Sp := fun vs H Q _ => ∃ (p a : Addr) (c : Cd) (x : Vagral.Made), vs = [.ref p, .ref a] ∧ CodeAt H p c ∧ MdA H a x ∧ LowM c x ∧ RetO H ((SC.identM c x).map mdv) Q
theorem scIdent : FnScope ["made", "line", "kind"] ["made", "line"] (defScope sIdent) := ⟨rfl, rfl, rfl, by decide +kernel, rfl, by decide +kernel, by decide +kernel⟩
theorem ok_ident (T : Glo K mg) (D : Dx K mg "identity" sIdent ["made", "line"]) (C1 : Fk P w K mg base 2 "sum_identity" ["made", "a", "b"] (spI2 .add)) (C2 : Fk P w K mg base 2 "difference_identity" ["made", "a", "b"] (spI2 .sub))
    (C3 : Fk P w K mg base 2 "product_identity" ["made", "a", "b"] (spI2 .mul)) (C4 : Fk P w K mg base 2 "quotient_identity" ["made", "a", "b"] (spI2 .div)) (C5 : Fk P w K mg base 1 "negative_identity" ["made", "a"] spNegI) : Fk P w K mg base 3 "identity" ["made", "line"] spIdent := by
  refine D.ok scIdent (fun vs H Q E h => ?_) (fun f cdv A outer s H vs Q E hr h => ?_)
  · obtain ⟨p, a, c, l, rfl, _⟩ := h
    rfl
  · obtain ⟨p, a, c, l, rfl, hc, ha, hl, k⟩ := h
    refine ⟨_, pss_cons (ps_set (i := 2) scIdent.nd rfl (Or.inl rfl) (pe_ix ix_tup (pv 1) pe_int (fun _ _ => rfl)))
      (pss_cons (ps_if (pt_cmpR op_eq (pv 2) (pgi T.sum) (nomark _)) (pss_one (ps_ret (pcall C1 hr (pa_cons (pv 0) (pa_cons (pe_ix ix_tup (pv 1) pe_int (fun _ _ => rfl)) (pa_cons (pe_ix ix_tup (pv 1) pe_int (fun _ _ => rfl)) pa_nil)))))) pss_nil)
      (pss_cons (ps_if (pt_cmpR op_eq (pv 2) (pgi T.diff) (nomark _)) (pss_one (ps_ret (pcall C2 hr (pa_cons (pv 0) (pa_cons (pe_ix ix_tup (pv 1) pe_int (fun _ _ => rfl)) (pa_cons (pe_ix ix_tup (pv 1) pe_int (fun _ _ => rfl)) pa_nil)))))) pss_nil)
      (pss_cons (ps_if (pt_cmpR op_eq (pv 2) (pgi T.prod) (nomark _)) (pss_one (ps_ret (pcall C3 hr (pa_cons (pv 0) (pa_cons (pe_ix ix_tup (pv 1) pe_int (fun _ _ => rfl)) (pa_cons (pe_ix ix_tup (pv 1) pe_int (fun _ _ => rfl)) pa_nil)))))) pss_nil)
      (pss_cons (ps_if (pt_cmpR op_eq (pv 2) (pgi T.quot) (nomark _)) (pss_one (ps_ret (pcall C4 hr (pa_cons (pv 0) (pa_cons (pe_ix ix_tup (pv 1) pe_int (fun _ _ => rfl)) (pa_cons (pe_ix ix_tup (pv 1) pe_int (fun _ _ => rfl)) pa_nil)))))) pss_nil)
      (pss_cons (ps_if (pt_cmpR op_eq (pv 2) (pgi T.nega) (nomark _)) (pss_one (ps_ret (pcall C5 (hr.mono (by decide)) (pa_cons (pv 0) (pa_cons (pe_ix ix_tup (pv 1) pe_int (fun _ _ => rfl)) pa_nil))))) pss_nil)
      (pss_one (ps_ret pe_non))))))), ?_⟩
    cases l with
    | old i =>
      have ha : H a = some (.tup [.int 7, .int i]) := ha
      refine ⟨_, rfl, a, _, _, _, rfl, rfl, SqT.of ha, at0, ?_⟩
      refine ⟨_, rfl, rfl, _, rfl, iteF ?_⟩
      refine ⟨_, rfl, rfl, _, rfl, iteF ?_⟩
      refine ⟨_, rfl, rfl, _, rfl, iteF ?_⟩
      refine ⟨_, rfl, rfl, _, rfl, iteF ?_⟩
      refine ⟨_, rfl, rfl, _, rfl, iteF ?_⟩
      exact k H (Same.refl H)
    | line l =>
    have ha : LnA H a l := ha
    have hl : SC.Low c.length l := hl
    have k : RetO H ((Vagral.identity c l).map mdv) Q := k
    cases l with
    | input x =>
      refine ⟨_, rfl, a, _, _, _, rfl, rfl, SqT.of ha, at0, ?_⟩
      refine ⟨_, rfl, rfl, _, rfl, iteF ?_⟩
      refine ⟨_, rfl, rfl, _, rfl, iteF ?_⟩
      refine ⟨_, rfl, rfl, _, rfl, iteF ?_⟩
      refine ⟨_, rfl, rfl, _, rfl, iteF ?_⟩
      refine ⟨_, rfl, rfl, _, rfl, iteF ?_⟩
      exact k H (Same.refl H)
    | num x =>
      refine ⟨_, rfl, a, _, _, _, rfl, rfl, SqT.of ha, at0, ?_⟩
      refine ⟨_, rfl, rfl, _, rfl, iteF ?_⟩
      refine ⟨_, rfl, rfl, _, rfl, iteF ?_⟩
      refine ⟨_, rfl, rfl, _, rfl, iteF ?_⟩
      refine ⟨_, rfl, rfl, _, rfl, iteF ?_⟩
      refine ⟨_, rfl, rfl, _, rfl, iteF ?_⟩
      exact k H (Same.refl H)
    | add i j =>
      refine ⟨_, rfl, a, _, _, _, rfl, rfl, SqT.of ha, at0, ?_⟩
      refine ⟨_, rfl, rfl, _, rfl, iteT ?_⟩
      exact ⟨_, rfl, _, rfl, a, _, _, _, rfl, rfl, SqT.of ha, at1, _, rfl, a, _, _, _, rfl, rfl, SqT.of ha, at2, p, c, i, j, rfl, hc, hl i (by simp [Line.uses]), hl j (by simp [Line.uses]), k⟩
    | sub i j =>
      refine ⟨_, rfl, a, _, _, _, rfl, rfl, SqT.of ha, at0, ?_⟩
      refine ⟨_, rfl, rfl, _, rfl, iteF ?_⟩
      refine ⟨_, rfl, rfl, _, rfl, iteT ?_⟩
      exact ⟨_, rfl, _, rfl, a, _, _, _, rfl, rfl, SqT.of ha, at1, _, rfl, a, _, _, _, rfl, rfl, SqT.of ha, at2, p, c, i, j, rfl, hc, hl i (by simp [Line.uses]), hl j (by simp [Line.uses]), k⟩
    | mul i j =>
      refine ⟨_, rfl, a, _, _, _, rfl, rfl, SqT.of ha, at0, ?_⟩
      refine ⟨_, rfl, rfl, _, rfl, iteF ?_⟩
      refine ⟨_, rfl, rfl, _, rfl, iteF ?_⟩
      refine ⟨_, rfl, rfl, _, rfl, iteT ?_⟩
      exact ⟨_, rfl, _, rfl, a, _, _, _, rfl, rfl, SqT.of ha, at1, _, rfl, a, _, _, _, rfl, rfl, SqT.of ha, at2, p, c, i, j, rfl, hc, hl i (by simp [Line.uses]), hl j (by simp [Line.uses]), k⟩
    | div i j =>
      refine ⟨_, rfl, a, _, _, _, rfl, rfl, SqT.of ha, at0, ?_⟩
      refine ⟨_, rfl, rfl, _, rfl, iteF ?_⟩
      refine ⟨_, rfl, rfl, _, rfl, iteF ?_⟩
      refine ⟨_, rfl, rfl, _, rfl, iteF ?_⟩
      refine ⟨_, rfl, rfl, _, rfl, iteT ?_⟩
      exact ⟨_, rfl, _, rfl, a, _, _, _, rfl, rfl, SqT.of ha, at1, _, rfl, a, _, _, _, rfl, rfl, SqT.of ha, at2, p, c, i, j, rfl, hc, hl i (by simp [Line.uses]), hl j (by simp [Line.uses]), k⟩
    | neg i =>
      refine ⟨_, rfl, a, _, _, _, rfl, rfl, SqT.of ha, at0, ?_⟩
      refine ⟨_, rfl, rfl, _, rfl, iteF ?_⟩
      refine ⟨_, rfl, rfl, _, rfl, iteF ?_⟩
      refine ⟨_, rfl, rfl, _, rfl, iteF ?_⟩
      refine ⟨_, rfl, rfl, _, rfl, iteF ?_⟩
      refine ⟨_, rfl, rfl, _, rfl, iteT ?_⟩
      exact ⟨_, rfl, _, rfl, a, _, _, _, rfl, rfl, SqT.of ha, at1, p, c, i, rfl, hc, hl i (by simp [Line.uses]), k⟩
end
end SD
set_option maxHeartbeats 1000000
namespace SD
open PySem PySem.Spec PyProof.Rows L2
open Vagraa (Frac frac zero one isZero weight)
open VagraLine (Line)
open Vagral (Mode)
section
variable {P : Program} {w : World} {K : PySem.W.Frag} {mg : Str → Option Value} {base : Heap}
/-! ### making.py -/
abbrev sMade : Stmt := top 49
abbrev sFold : Stmt := top 50
abbrev sOne : Stmt := top 51
abbrev sSettled : Stmt := top 52
abbrev sOrder : Stmt := top 53
abbrev sPut : Stmt := top 54
abbrev sAnew : Stmt := top 55
abbrev sNeeded : Stmt := top 56
abbrev sDead : Stmt := top 57
abbrev sMake : Stmt := top 58
def kdM : Vagral.Made → Int
  | .old _ => 7
  | .line l => SC.kd l
theorem mdv_kd (x : Vagral.Made) : ∃ r, mdv x = .int (kdM x) :: r := by
  cases x with
  | old i => exact ⟨_, rfl⟩
  | line l => exact lv_kd l
/-! ### comprehensions that make tuples -/
theorem lc_tupL {a : Addr} {xs : List V} {g : TG} {te : TE} {vs : List Nat} {σ : L2.St} {H1 : Hp} {D : Addr} {Qd : Hp → Prop} (ts : Nat → List V) (hD : H1 D = none) (hq : SqL K H1 a xs) (hz : xs.length ≤ sizeLine)
    (turn : ∀ (i : Nat) (x : V) (H : Hp) (k : V → Hp → Prop), xs[i]? = some x → Same H1 H → (∀ (H4 : Hp) (q : Addr), Same H H4 → H4 q = some (.tup (ts i)) → k (.ref q) H4) → g x (wipe σ vs) H fun σ2 H2 => wipe σ2 vs = wipe σ vs ∧ te σ2 H2 k)
    (hd : ∀ (H : Hp) (as : List Addr), Same H1 H → H D = some (.lst (as.map V.ref)) → as.length = xs.length → (∀ i b, as[i]? = some b → H b = some (.tup (ts i))) → Qd H) :
    ∃ W : Nat → Nat → Hp → Prop, (∃ m, W 0 m (upd H1 D (.lst []))) ∧ ∀ i m H, W i m H →
      ((Itl K a).stop i H ∧ Qd H) ∨ ((Itl K a).go i H ∧ ∃ Nx : Hp → Prop, (∀ H', Nx H' → ∃ m', m' < m ∧ W (i + 1) m' H') ∧ ∀ x H', (Itl K a).yld i H x H' → g x (wipe σ vs) H' fun σ2 H2 => wipe σ2 vs = wipe σ vs ∧ tYes σ2 H2 fun b H3 =>
        if b = true then te σ2 H3 fun y H4 => ∃ acc, H4 D = some (.lst acc) ∧ acc.length < sizeLine ∧ Nx (upd H4 D (.lst (acc ++ [y]))) else Nx H3) := by
  refine lc_list (xs := xs) (fun i H => ∃ as : List Addr, Gw H1 H D (as.map V.ref) ∧ as.length = i ∧ ∀ j b, as[j]? = some b → H b = some (.tup (ts j))) ⟨[], Gw.new hD, rfl, fun j b e => by simp at e⟩ (fun i H _ p => let ⟨as, g, _⟩ := p; g.s.seq hq) (fun i x H hx p => ?_) (fun H p => let ⟨as, g, h1, h2⟩ := p; hd H as g.s g.l h1 h2)
  obtain ⟨as, g, h1, h2⟩ := p
  have hi := (List.getElem?_eq_some_iff.mp hx).1
  have t := turn i x H (fun y H4 => ∃ acc, H4 D = some (.lst acc) ∧ acc.length < sizeLine ∧ ∃ as : List Addr, Gw H1 (upd H4 D (.lst (acc ++ [y]))) D (as.map V.ref) ∧ as.length = i + 1 ∧ ∀ j b, as[j]? = some b → (upd H4 D (.lst (acc ++ [y]))) b = some (.tup (ts j))) hx g.s (fun H4 q s4 hq4 => ?_)
  · exact t
  · have g4 := g.same s4
    refine ⟨_, g4.l, by rw [List.length_map]; omega, as ++ [q], ?_, by simp [h1], fun j b e => ?_⟩
    · rw [← map_snoc]; exact g4.put _
    · by_cases hj : j < as.length
      · rw [List.getElem?_append_left hj] at e
        exact tup_upd (s4 _ _ (h2 j b e)) g4.l
      · rw [List.getElem?_append_right (by omega)] at e
        have hj2 : j - as.length = 0 := by
          have := (List.getElem?_eq_some_iff.mp e).1
          simp at this; omega
        rw [hj2] at e
        have e' : q = b := by simpa using e
        subst e'
        rw [show j = i by omega]
        exact tup_upd hq4 g4.l
theorem boot_any' : bootBuiltins "any" = some (.builtin "any") := by decide +kernel
/-! ### folded -/
def fol (o : Option Frac) : Option (List V) := o.map fun a => lv (.num a)
theorem uses_lns {H : Hp} {as : List Addr} {c : Cd} (h : Lns H as c) : ∀ us : List Nat, (∀ u ∈ us, u < c.length) → Lns H (us.map fun u => as.getD u 0) (us.map (Vagral.lineAt c))
  | [], _ => .nil
  | u :: us, hu => by
    obtain ⟨a, h1, h2⟩ := paired_get h (SC.get_lineAt (hu u (by simp)))
    refine .cons ?_ (uses_lns h us fun v hv => hu v (by simp [hv]))
    show LnA H (as.getD u 0) _
    rw [List.getD_eq_getElem?_getD, h1]
    exact h2
theorem paired_of {α β : Type} {F : α → β → Prop} : ∀ {l : List α} {m : List β}, l.length = m.length → (∀ (i : Nat) (a : α) (b : β), l[i]? = some a → m[i]? = some b → F a b) → Paired F l m
  | [], [], _, _ => .nil
  | [], _ :: _, h, _ => by simp at h
  | _ :: _, [], h, _ => by simp at h
  | a :: l, b :: m, h, H => .cons (H 0 a b rfl rfl) (paired_of (by simpa using h) fun i x y hx hy => H (i + 1) x y (by simpa using hx) (by simpa using hy))
theorem refs_getD {as : List Addr} {u : Nat} (h : u < as.length) : (as.map V.ref)[u]? = some (V.ref (as.getD u 0)) := by
  rw [List.getElem?_map, List.getElem?_eq_getElem h, List.getD_eq_getElem?_getD, List.getElem?_eq_getElem h]
  rfl
theorem getD_of {us : List Nat} {j u : Nat} (h : us[j]? = some u) : us.getD j 0 = u := by rw [List.getD_eq_getElem?_getD, h]; rfl
def spFold : Sp := fun vs H Q _ => ∃ (p a : Addr) (c : Cd) (x : Vagral.Made) (ni : Nat), vs = [.ref p, .ref a] ∧ CodeAt H p c ∧ MdA H a x ∧ SC.Ord ni c ∧ SC.Good ni c x ∧ RetO H (fol (SC.foldM c x)) Q
theorem scFold : FnScope ["made", "line", "below", "used", "each", "value"] ["made", "line"] (defScope sFold) := ⟨rfl, rfl, rfl, by decide +kernel, rfl, by decide +kernel, by decide +kernel⟩
theorem cutN {f : Frac} : cutV (lv (.num f)) (some 1) none = frv f ∧ ¬ (HT.sIx (lv (.num f)).length 0 (some 1) = 0 ∧ HT.sIx (lv (.num f)).length (lv (.num f)).length none = (lv (.num f)).length) :=
  ⟨rfl, fun q => absurd q.1 (show ¬ ((1 : Nat) = 0) by decide)⟩
theorem ok_fold (T : Glo K mg) (D : Dx K mg "folded" sFold ["made", "line"]) (C : Fk P w K mg base 1 "is_operation" ["line"] spIsOp) (C2 : Fk P w K mg base 2 "used_lines" ["line"] spUsed) (C3 : Fk P w K mg base 5 "operation_value" ["kind", "values"] (spOpV K)) (C4 : Fk P w K mg base 1 "weight" ["value"] spWgt) :
    Fk P w K mg base 6 "folded" ["made", "line"] spFold := by
  refine D.ok scFold (fun vs H Q E h => ?_) (fun f cdv A outer s H vs Q E hr h => ?_)
  · obtain ⟨p, a, c, x, ni, rfl, _⟩ := h
    rfl
  · obtain ⟨p, a, c, x, ni, rfl, ⟨as, hp, hl⟩, ha, hO, hG, k⟩ := h
    refine ⟨_, pss_cons (ps_if (pt_not (pt_val (pcall C (hr.mono (by decide)) (pa_cons (pv 1) pa_nil)))) (pss_one (ps_ret pe_non)) pss_nil)
      (pss_cons (ps_setLc (i := 2) rfl scFold.nd rfl rfl (sw_true rfl rfl rfl rfl) (pi_tup (pcall C2 (hr.mono (by decide)) (pa_cons (pv 1) pa_nil))) (blkOk_by (own := [("used", 3)]) rfl)
          (fun _ _ _ _ _ => pg_name (i := 3) scFold.nd rfl (Or.inl rfl)) (fun _ _ _ _ _ => pts_nil) (fun _ _ _ _ _ => pe_ix (r := rIxL K) ix_list (pv 0) (pv 3) (fun _ _ => rfl)))
      (pss_cons (ps_if (pt_val (pe_callB (cr_any rfl) rfl T.nAny boot_any' (pa_cons (pe_lc rfl scFold.nd (pi_list (pv 2)) (blkOk_by (own := [("each", 4)]) rfl)
          (fun _ _ _ _ _ => pg_name (i := 4) scFold.nd rfl (Or.inl rfl)) (fun _ _ _ _ _ => pts_nil) (fun _ _ _ _ _ => pe_cmpR op_ne (pe_ix (r := rIxT K) ix_tup (pv 4) pe_int (fun _ _ => rfl)) (pgi T.const) (nomark _))) pa_nil))) (pss_one (ps_ret pe_non)) pss_nil)
      (pss_cons (ps_set (i := 5) scFold.nd rfl (Or.inl rfl) (pcall C3 hr (pa_cons (pe_ix ix_tup (pv 1) pe_int (fun _ _ => rfl)) (pa_cons (pe_lc rfl scFold.nd (pi_list (pv 2)) (blkOk_by (own := [("each", 4)]) rfl)
          (fun _ _ _ _ _ => pg_name (i := 4) scFold.nd rfl (Or.inl rfl)) (fun _ _ _ _ _ => pts_nil) (fun _ _ _ _ _ => pe_slice (r := rSlT K) sl_tup (pv 4) (po_some pe_int) po_none)) pa_nil))))
      (pss_cons (ps_if (PW.pt (pw_or (pt_cmpR op_isN (pv 5) pe_non (nomark _)) (pw_or1 (pt_cmpR op_gt (pcall C4 (hr.mono (by decide)) (pa_cons (pv 5) pa_nil)) (pgi T.mostW) (nomark _))))) (pss_one (ps_ret pe_non)) pss_nil)
      (pss_one (ps_ret (pe_op op_catT (pe_tup (pa_cons (pgi T.const) pa_nil)) (pv 5)))))))), ?_⟩
    obtain ⟨r, er⟩ := mdv_kd x
    refine ⟨_, rfl, a, _, r, rfl, (by rw [← er]; exact ha), _, rfl, ite2 (fun h => ?_) (fun h => ?_)⟩
    · have e : SC.foldM c x = none := by
        cases x with
        | old i => rfl
        | line l =>
          have h' : (!SC.opK (SC.kd l)) = true := h
          rw [SC.opK_kd] at h'
          exact SC.folded_noop (by simpa using h')
      rw [e] at k
      exact k H (Same.refl H)
    have hop : SC.opK (kdM x) = true := by simpa using h
    cases x with
    | old i => exact absurd (show SC.opK 7 = true from hop) (by decide)
    | line l =>
      have ho : l.isOp = true := by rw [← SC.opK_kd]; exact hop
      have ha : LnA H a l := ha
      have hlow : SC.Low c.length l := hG.1
      refine ⟨_, rfl, a, l, rfl, ha, fun H2 q s2 hq => ⟨q, rfl, ⟨_, SqT.of hq⟩, fun D hD => ?_⟩⟩
      refine lc_mapT (xs := nats l.uses) (fun j => V.ref (as.getD (l.uses.getD j 0) 0)) hD hq (by rw [nats_len]; exact Nat.le_trans (uses_len l) (by decide)) (fun j z H3 k3 hz s3 kk => ?_) (fun H3 s3 hD3 => ?_)
      · obtain ⟨u, hu1, rfl⟩ := nats_of hz
        have hul : u < as.length := by rw [hl.len]; exact hlow u (List.mem_of_getElem? hu1)
        refine ⟨rfl, _, rfl, _, rfl, p, _, _, _, rfl, rfl, SqL.of ((s2.trans s3) _ _ hp), atI_nat (j := u) (refs_getD hul), ?_⟩
        have := kk H3 (Same.refl H3)
        rw [getD_of hu1] at this
        exact this
      have eD : (List.range (nats l.uses).length).map (fun j => V.ref (as.getD (l.uses.getD j 0) 0)) = (l.uses.map fun u => as.getD u 0).map V.ref := by
        rw [List.map_map, nats_len]
        exact range_map_get fun j u e => by rw [getD_of e]; rfl
      rw [eD] at hD3
      have S3 := s2.trans s3
      have hbs := (uses_lns hl l.uses hlow).same S3
      generalize hbe : (l.uses.map fun u => as.getD u 0) = bs at hD3 hbs
      have hbl : bs.length = l.uses.length := by rw [← hbe, List.length_map]
      have hzb : (bs.map V.ref).length ≤ sizeLine := by rw [List.length_map, hbl]; exact Nat.le_trans (uses_len l) (by decide)
      have bget : ∀ {j : Nat} {v : V}, (bs.map V.ref)[j]? = some v → ∃ b u, v = V.ref b ∧ l.uses[j]? = some u ∧ LnA H3 b (Vagral.lineAt c u) := fun {j v} hv => by
        obtain ⟨b, m, e1, e2, e3⟩ := ref_get hbs hv
        rw [List.getElem?_map] at e2
        cases eu : l.uses[j]? with
        | none => rw [eu] at e2; cases e2
        | some u => rw [eu] at e2; cases e2; exact ⟨b, u, e1, rfl, e3⟩
      refine ⟨_, rfl, D, rfl, ⟨_, SqL.of hD3⟩, fun D2 hD2 => ?_⟩
      refine lc_mapL (xs := bs.map V.ref) (fun j => V.bl (!decide (SC.kd (Vagral.lineAt c (l.uses.getD j 0)) = 1))) hD2 (SqL.of hD3) hzb (fun j z H4 k4 hz s4 kk => ?_) (fun H4 s4 hD4 => ?_)
      · obtain ⟨b, u, rfl, hu1, hb⟩ := bget hz
        obtain ⟨r', er'⟩ := lv_kd (Vagral.lineAt c u)
        refine ⟨rfl, _, rfl, b, _, _, _, rfl, rfl, SqT.of (by rw [← er']; exact s4 _ _ hb), at0, rfl, ?_⟩
        have := kk H4 (Same.refl H4)
        rw [getD_of hu1] at this
        rw [dec_int]
        exact this
      have eB : (List.range (bs.map V.ref).length).map (fun j => V.bl (!decide (SC.kd (Vagral.lineAt c (l.uses.getD j 0)) = 1))) = (l.uses.map fun u => !decide (SC.kd (Vagral.lineAt c u) = 1)).map V.bl := by
        rw [List.map_map, List.length_map, hbl]
        exact range_map_get fun j u e => by rw [getD_of e]; rfl
      rw [eB] at hD4
      have S4 := S3.trans s4
      refine ⟨D2, _, rfl, SqL.of hD4, _, rfl, ?_⟩
      rw [List.any_map]
      have k' : RetO H (fol (SC.foldM c (.line l))) Q := k
      have ef : SC.foldM c (.line l) = match SC.fold1 c l with | some a => if Vagral.HEAVY < weight a then none else some a | none => none := SC.folded_eq c l
      rw [ef] at k'
      refine ite2 (fun hany => ?_) (fun hany => ?_)
      · rw [SC.fold_any ho hany] at k'
        exact k' H4 S4
      obtain ⟨f1, f2⟩ := SC.fold_all ho (Bool.eq_false_iff.mpr hany)
      rw [f1] at k'
      obtain ⟨r'', er''⟩ := lv_kd l
      refine ⟨_, rfl, a, _, _, _, rfl, rfl, SqT.of (by rw [← er'']; exact S4 _ _ ha), at0, _, rfl, D, rfl, ⟨_, SqL.of (s4 _ _ hD3)⟩, fun D3 hD3' => ?_⟩
      refine lc_tupL (xs := bs.map V.ref) (fun j => frv (SC.frl (Vagral.lineAt c (l.uses.getD j 0)))) hD3' (SqL.of (s4 _ _ hD3)) hzb (fun j z H5 k5 hz s5 kk => ?_) (fun H5 cs s5 hD5 hcl hcs => ?_)
      · obtain ⟨b, u, rfl, hu1, hb⟩ := bget hz
        rw [f2 u (List.mem_of_getElem? hu1)] at hb
        refine ⟨rfl, _, rfl, _, rfl, b, _, rfl, SqT.of (s5 _ _ (s4 _ _ hb)), cutN.2, fun t ht => ?_⟩
        refine kk _ t (same_new ht) ?_
        rw [upd_same, getD_of hu1]
        rfl
      have S5 := S4.trans s5
      rw [List.length_map, hbl] at hcl
      have hfr : Frs H5 cs (l.uses.map fun u => SC.frl (Vagral.lineAt c u)) := paired_of (by rw [List.length_map, hcl]) fun j b y hb hy => by
        have := hcs j b hb
        rw [List.getElem?_map] at hy
        cases eu : l.uses[j]? with
        | none => rw [eu] at hy; cases hy
        | some u =>
          rw [eu] at hy
          cases hy
          rw [getD_of eu] at this
          exact this
      refine ⟨SC.kd l, D3, cs, _, rfl, SqL.of hD5, hfr, fun y hy => ?_, ?_, ?_⟩
      · obtain ⟨u, hu, rfl⟩ := List.mem_map.mp hy
        have := hO.fit u _ (SC.get_lineAt (hlow u hu))
        rw [f2 u hu] at this
        exact this
      · rw [List.length_map]; exact SC.args_op ho
      cases eo : SC.opv (SC.kd l) (l.uses.map fun u => SC.frl (Vagral.lineAt c u)) with
      | none =>
        rw [eo] at k'
        exact fun H6 s6 => ⟨_, rfl, rfl, _, rfl, iteT (iteT (k' H6 (S5.trans s6)))⟩
      | some v =>
        rw [eo] at k'
        refine fun H6 q6 s6 hq6 => ⟨_, rfl, rfl, _, rfl, ite2 (fun h => absurd (of_decide_eq_true h) (by intro z; cases z)) (fun _ => ⟨_, rfl, q6, v, rfl, hq6, _, _, rfl, rfl, _, rfl, ite2 (fun h => ?_) (fun h => ?_)⟩)⟩
        · have h' : ((weight v : Nat) : Int) > 200 := of_decide_eq_true h
          rw [show (match some v with | some a => if Vagral.HEAVY < weight a then none else some a | none => none) = none from if_pos (show 200 < weight v by omega)] at k'
          exact k' H6 (S5.trans s6)
        · have h' : ¬ ((weight v : Nat) : Int) > 200 := fun q => h (decide_eq_true q)
          rw [show (match some v with | some a => if Vagral.HEAVY < weight a then none else some a | none => none) = some v from if_neg (show ¬ 200 < weight v by omega)] at k'
          refine ⟨by show 1 ≤ sizeLine; decide, fun t ht => ⟨_, rfl, t, q6, _, _, rfl, rfl, SqT.of upd_same, SqT.of (same_new ht _ _ hq6), by simp, by show 3 ≤ sizeLine; decide, fun e => (by cases e), fun _ z hz => ?_⟩⟩
          exact k' _ z (S5.trans (s6.trans ((same_new ht).trans (same_new hz)))) upd_same
end
end SD
set_option maxHeartbeats 1000000
namespace SD
open PySem PySem.Spec PyProof.Rows L2
open Vagraa (Frac frac zero one isZero weight)
open VagraLine (Line)
open Vagral (Mode)
section
variable {P : Program} {w : World} {K : PySem.W.Frag} {mg : Str → Option Value} {base : Heap}
theorem bF : ∀ m : Fin 16, (Builtin.bitAnd (m.val : Int) 1 != 0) = (SC.md (m.val : Int)).share ∧ (Builtin.bitAnd (m.val : Int) 2 != 0) = (SC.md (m.val : Int)).fold ∧ (Builtin.bitAnd (m.val : Int) 4 != 0) = (SC.md (m.val : Int)).same ∧ (Builtin.bitAnd (m.val : Int) 8 != 0) = (SC.md (m.val : Int)).dead := by decide +kernel
theorem bit_share {m : Nat} (h : m ≤ 15) : (SC.md (m : Int)).share = (Builtin.bitAnd (m : Int) 1 != 0) := (bF ⟨m, by omega⟩).1.symm
theorem bit_fold {m : Nat} (h : m ≤ 15) : (SC.md (m : Int)).fold = (Builtin.bitAnd (m : Int) 2 != 0) := (bF ⟨m, by omega⟩).2.1.symm
theorem bit_same {m : Nat} (h : m ≤ 15) : (SC.md (m : Int)).same = (Builtin.bitAnd (m : Int) 4 != 0) := (bF ⟨m, by omega⟩).2.2.1.symm
theorem bit_dead {m : Nat} (h : m ≤ 15) : (SC.md (m : Int)).dead = (Builtin.bitAnd (m : Int) 8 != 0) := (bF ⟨m, by omega⟩).2.2.2.symm
def spOne : Sp := fun vs H Q _ => ∃ (p a : Addr) (m : Nat) (c : Cd) (x : Vagral.Made) (ni : Nat), vs = [.ref p, .ref a, .int m] ∧ m ≤ 15 ∧ CodeAt H p c ∧ MdA H a x ∧ SC.Ord ni c ∧ SC.Good ni c x ∧ RetO H ((SC.step (SC.md m) c x).map mdv) Q
theorem scOne : FnScope ["made", "line", "mode", "after"] ["made", "line", "mode"] (defScope sOne) := ⟨rfl, rfl, rfl, by decide +kernel, rfl, by decide +kernel, by decide +kernel⟩
theorem ok_one (T : Glo K mg) (D : Dx K mg "one_step" sOne ["made", "line", "mode"]) (C : Fk P w K mg base 6 "folded" ["made", "line"] spFold) (C2 : Fk P w K mg base 3 "identity" ["made", "line"] spIdent) : Fk P w K mg base 7 "one_step" ["made", "line", "mode"] spOne := by
  refine D.ok scOne (fun vs H Q E h => ?_) (fun f cdv A outer s H vs Q E hr h => ?_)
  · obtain ⟨p, a, m, c, x, ni, rfl, _⟩ := h
    rfl
  · obtain ⟨p, a, m, c, x, ni, rfl, hm, hc, ha, hO, hG, k⟩ := h
    refine ⟨_, pss_cons (ps_set (i := 3) scOne.nd rfl (Or.inl rfl) pe_non)
      (pss_cons (ps_if (pt_truth (pe_op op_and (pv 2) (pgi T.fold)) (fun _ => rfl)) (pss_one (ps_set (i := 3) scOne.nd rfl (Or.inl rfl) (pcall C hr (pa_cons (pv 0) (pa_cons (pv 1) pa_nil))))) pss_nil)
      (pss_cons (ps_if (PW.pt (pw_and (pt_cmpR op_isN (pv 3) pe_non (nomark _)) (pw_and1 (pt_truth (pe_op op_and (pv 2) (pgi T.ident)) (fun _ => rfl))))) (pss_one (ps_set (i := 3) scOne.nd rfl (Or.inl rfl) (pcall C2 (hr.mono (by decide)) (pa_cons (pv 0) (pa_cons (pv 1) pa_nil))))) pss_nil)
      (pss_one (ps_ret (pv 3))))), ?_⟩
    rw [SC.step_eq, bit_fold hm, bit_same hm] at k
    have hlow : LowM c x := by
      cases x with
      | old i => trivial
      | line l => exact hG.1
    refine ⟨_, rfl, _, _, rfl, rfl, _, rfl, ite2 (fun h => ?_) (fun h => ?_)⟩
    · have h' : (Builtin.bitAnd (m : Int) 2 != 0) = true := h
      rw [if_pos h'] at k
      refine ⟨_, rfl, _, rfl, p, a, c, x, ni, rfl, hc, ha, hO, hG, ?_⟩
      cases ef : SC.foldM c x with
      | some v =>
        rw [ef] at k
        exact fun H2 q s2 hq => ⟨_, rfl, rfl, _, rfl, ite2 (fun h => absurd (of_decide_eq_true h) (by intro z; cases z)) (fun _ => iteF ⟨_, rfl, k H2 q s2 hq⟩)⟩
      | none =>
        rw [ef] at k
        refine fun H2 s2 => ⟨_, rfl, rfl, _, rfl, iteT ⟨_, rfl, _, _, rfl, rfl, _, rfl, ite2 (fun h => ?_) (fun h => ?_)⟩⟩
        · have h4 : (Builtin.bitAnd (m : Int) 4 != 0) = true := h
          have k : RetO H ((if (Builtin.bitAnd (m : Int) 4 != 0) = true then SC.identM c x else none).map mdv) Q := k
          rw [if_pos h4] at k
          refine ⟨_, rfl, _, rfl, p, a, c, x, rfl, hc.same s2, s2 _ _ ha, hlow, ?_⟩
          cases ei : SC.identM c x with
          | none => rw [ei] at k; exact fun H3 s3 => ⟨_, rfl, k H3 (s2.trans s3)⟩
          | some y => rw [ei] at k; exact fun H3 q s3 hq => ⟨_, rfl, k H3 q (s2.trans s3) hq⟩
        · have h4 : ¬ (Builtin.bitAnd (m : Int) 4 != 0) = true := h
          have k : RetO H ((if (Builtin.bitAnd (m : Int) 4 != 0) = true then SC.identM c x else none).map mdv) Q := k
          rw [if_neg h4] at k
          exact ⟨_, rfl, k H2 s2⟩
    · have h' : ¬ (Builtin.bitAnd (m : Int) 2 != 0) = true := h
      rw [if_neg h'] at k
      refine ⟨_, rfl, rfl, _, rfl, iteT ⟨_, rfl, _, _, rfl, rfl, _, rfl, ite2 (fun h => ?_) (fun h => ?_)⟩⟩
      · have h4 : (Builtin.bitAnd (m : Int) 4 != 0) = true := h
        have k : RetO H ((if (Builtin.bitAnd (m : Int) 4 != 0) = true then SC.identM c x else none).map mdv) Q := k
        rw [if_pos h4] at k
        refine ⟨_, rfl, _, rfl, p, a, c, x, rfl, hc, ha, hlow, ?_⟩
        cases ei : SC.identM c x with
        | none => rw [ei] at k; exact fun H3 s3 => ⟨_, rfl, k H3 s3⟩
        | some y => rw [ei] at k; exact fun H3 q s3 hq => ⟨_, rfl, k H3 q s3 hq⟩
      · have h4 : ¬ (Builtin.bitAnd (m : Int) 4 != 0) = true := h
        have k : RetO H ((if (Builtin.bitAnd (m : Int) 4 != 0) = true then SC.identM c x else none).map mdv) Q := k
        rw [if_neg h4] at k
        exact ⟨_, rfl, k H (Same.refl H)⟩
/-! ### settled -/
def spSet : Sp := fun vs H Q _ => ∃ (p a : Addr) (m : Nat) (c : Cd) (l : Line) (ni : Nat), vs = [.ref p, .ref a, .int m] ∧ m ≤ 15 ∧ CodeAt H p c ∧ LnA H a l ∧ SC.Ord ni c ∧ ((SC.md m).same = true → SC.Nf c) ∧ SC.Good ni c (.line l) ∧ RetT H (mdv (Vagral.simple (SC.md m) c 8 l)) Q
theorem scSet : FnScope ["made", "line", "mode", "after"] ["made", "line", "mode"] (defScope sSettled) := ⟨rfl, rfl, rfl, by decide +kernel, rfl, by decide +kernel, by decide +kernel⟩
/-- what one_step came to -/
def Aft (H : Hp) (v : V) (o : Option Vagral.Made) : Prop := match o with
  | none => v = .non
  | some y => ∃ q, v = .ref q ∧ MdA H q y
theorem retO_aft {H : Hp} {o : Option Vagral.Made} {Q : VK} (h : ∀ (H' : Hp) (v : V), Same H H' → Aft H' v o → Q v H') : RetO H (o.map mdv) Q := by
  cases o with
  | none => exact fun H' s => h H' .non s rfl
  | some y => exact fun H' q s hq => h H' (.ref q) s ⟨q, rfl, hq⟩
theorem ok_set (T : Glo K mg) (D : Dx K mg "settled" sSettled ["made", "line", "mode"]) (C : Fk P w K mg base 7 "one_step" ["made", "line", "mode"] spOne) : Fk P w K mg base 8 "settled" ["made", "line", "mode"] spSet := by
  refine D.ok scSet (fun vs H Q E h => ?_) (fun f cdv A outer s H vs Q E hr h => ?_)
  · obtain ⟨p, a, m, c, l, ni, rfl, _⟩ := h
    rfl
  · obtain ⟨p, a, m, c, l, ni, rfl, hm, hc, ha, hO, hN, hG, k⟩ := h
    refine ⟨_, pss_cons (ps_set (i := 3) scSet.nd rfl (Or.inl rfl) (pcall C hr (pa_cons (pv 0) (pa_cons (pv 1) (pa_cons (pv 2) pa_nil)))))
      (pss_cons (ps_while PassesOwn.never (pt_cmpR op_notN (pv 3) pe_non (nomark _)) (pss_cons (ps_set (i := 1) scSet.nd rfl (Or.inl rfl) (pv 3)) (pss_one (ps_set (i := 3) scSet.nd rfl (Or.inl rfl) (pcall C hr (pa_cons (pv 0) (pa_cons (pv 1) (pa_cons (pv 2) pa_nil))))))))
      (pss_one (ps_ret (pv 1)))), ?_⟩
    refine ⟨_, rfl, _, rfl, _, rfl, p, a, m, c, .line l, ni, rfl, hm, hc, ha, hO, hG, retO_aft fun H1 v s1 hv => ?_⟩
    refine ⟨fun n σ Hc => ∃ (b : Addr) (v : V) (x : Vagral.Made), n = SC.left (SC.md m) c x ∧ σ = [some (.ref p), some (.ref b), some (.int m), some v] ∧ Same H Hc ∧ MdA Hc b x ∧ SC.Good ni c x ∧ SC.Way' (SC.md m) c (Vagral.simple (SC.md m) c 8 l) x ∧ Aft Hc v (SC.step (SC.md m) c x),
      ⟨_, a, v, .line l, rfl, rfl, s1, s1 _ _ ha, hG, SC.Way'.start _ _ _, hv⟩, ?_⟩
    rintro n σ Hc ⟨b, v, x, rfl, rfl, s2, hb, hgx, hw, hv⟩
    refine ⟨_, rfl, rfl, _, rfl, ?_⟩
    cases es : SC.step (SC.md m) c x with
    | none =>
      rw [es] at hv
      have hv' : v = .non := hv
      subst hv'
      refine iteF ⟨_, rfl, ?_⟩
      rw [← hw.fin es] at k
      exact k Hc b s2 hb
    | some y =>
      rw [es] at hv
      obtain ⟨q, rfl, hq⟩ := hv
      refine ite2 (fun _ => ?_) (fun h => absurd (show (!decide (V.ref q = V.non)) = true from rfl) h)
      obtain ⟨w2, hlt⟩ := hw.next hN hgx es
      refine ⟨fun σ' Hc' => ∃ (b : Addr) (v : V) (x' : Vagral.Made), SC.left (SC.md m) c x' < SC.left (SC.md m) c x ∧ σ' = [some (.ref p), some (.ref b), some (.int m), some v] ∧ Same H Hc' ∧ MdA Hc' b x' ∧ SC.Good ni c x' ∧ SC.Way' (SC.md m) c (Vagral.simple (SC.md m) c 8 l) x' ∧ Aft Hc' v (SC.step (SC.md m) c x'),
        fun σ' H' ⟨b', v', x', q0, q1, q2, q3, q4, q5, q6⟩ => ⟨_, q0, b', v', x', rfl, q1, q2, q3, q4, q5, q6⟩, ?_⟩
      have hgy := SC.step_good hO hgx es
      refine ⟨_, rfl, _, rfl, _, rfl, _, rfl, p, q, m, c, y, ni, rfl, hm, hc.same s2, hq, hO, hgy, retO_aft fun H3 v3 s3 hv3 => ?_⟩
      exact ⟨q, v3, y, hlt, rfl, s2.trans s3, s3 _ _ hq, hgy, w2, hv3⟩
/-! ### in_shared_order -/
def spOrd : Sp := fun vs H Q _ => ∃ (a : Addr) (l : Line), vs = [.ref a] ∧ LnA H a l ∧ RetT H (lv (Vagral.turned l)) Q
theorem scOrd : FnScope ["line"] ["line"] (defScope sOrder) := ⟨rfl, rfl, rfl, by decide +kernel, rfl, by decide +kernel, by decide +kernel⟩
theorem ok_ord (T : Glo K mg) (D : Dx K mg "in_shared_order" sOrder ["line"]) : Fk P w K mg base 1 "in_shared_order" ["line"] spOrd := by
  refine D.ok scOrd (fun vs H Q E h => ?_) (fun f cdv A outer s H vs Q E hr h => ?_)
  · obtain ⟨a, l, rfl, _⟩ := h
    rfl
  · obtain ⟨a, l, rfl, ha, k⟩ := h
    refine ⟨_, pss_cons (ps_if (PW.pt (pw_and (PW.pt (pw_or (pt_cmpR op_eq (pe_ix ix_tup (pv 0) pe_int (fun _ _ => rfl)) (pgi T.sum) (nomark _)) (pw_or1 (pt_cmpR op_eq (pe_ix ix_tup (pv 0) pe_int (fun _ _ => rfl)) (pgi T.prod) (nomark _))))) (pw_and1 (pt_cmpR op_gt (pe_ix ix_tup (pv 0) pe_int (fun _ _ => rfl)) (pe_ix ix_tup (pv 0) pe_int (fun _ _ => rfl)) (nomark _)))))
        (pss_one (ps_ret (pe_tup (pa_cons (pe_ix ix_tup (pv 0) pe_int (fun _ _ => rfl)) (pa_cons (pe_ix ix_tup (pv 0) pe_int (fun _ _ => rfl)) (pa_cons (pe_ix ix_tup (pv 0) pe_int (fun _ _ => rfl)) pa_nil)))))) pss_nil)
      (pss_one (ps_ret (pv 0))), ?_⟩
    have no : ∀ {l' : Line}, l' = l → Vagral.turned l = l → (∃ v, ([some (V.ref a)] : L2.St)[0]? = some (some v) ∧ Q v H) := fun _ e => ⟨_, rfl, k H a (Same.refl H) (by rw [e]; exact ha)⟩
    cases l with
    | add i j =>
      refine ⟨_, rfl, a, _, _, _, rfl, rfl, SqT.of ha, at0, rfl, _, rfl, iteT (iteT ⟨_, rfl, a, _, _, _, rfl, rfl, SqT.of ha, at1, _, rfl, a, _, _, _, rfl, rfl, SqT.of ha, at2, _, _, rfl, rfl, _, rfl, ite2 (fun h => ?_) (fun h => ?_)⟩)⟩
      · have h' : (i : Int) > (j : Int) := of_decide_eq_true h
        have e : Vagral.turned (.add i j) = .add j i := by simp only [Vagral.turned]; rw [if_pos (by omega)]
        rw [e] at k
        exact ⟨_, rfl, a, _, _, _, rfl, rfl, SqT.of ha, at0, _, rfl, a, _, _, _, rfl, rfl, SqT.of ha, at2, _, rfl, a, _, _, _, rfl, rfl, SqT.of ha, at1, by show 3 ≤ sizeLine; decide, fun t ht => k _ t (same_new ht) upd_same⟩
      · have h' : ¬ (i : Int) > (j : Int) := fun q => h (decide_eq_true q)
        exact no rfl (by simp only [Vagral.turned]; rw [if_neg (by omega)])
    | mul i j =>
      refine ⟨_, rfl, a, _, _, _, rfl, rfl, SqT.of ha, at0, rfl, _, rfl, iteF ⟨_, rfl, a, _, _, _, rfl, rfl, SqT.of ha, at0, rfl, _, rfl, iteT ⟨_, rfl, a, _, _, _, rfl, rfl, SqT.of ha, at1, _, rfl, a, _, _, _, rfl, rfl, SqT.of ha, at2, _, _, rfl, rfl, _, rfl, ite2 (fun h => ?_) (fun h => ?_)⟩⟩⟩
      · have h' : (i : Int) > (j : Int) := of_decide_eq_true h
        have e : Vagral.turned (.mul i j) = .mul j i := by simp only [Vagral.turned]; rw [if_pos (by omega)]
        rw [e] at k
        exact ⟨_, rfl, a, _, _, _, rfl, rfl, SqT.of ha, at0, _, rfl, a, _, _, _, rfl, rfl, SqT.of ha, at2, _, rfl, a, _, _, _, rfl, rfl, SqT.of ha, at1, by show 3 ≤ sizeLine; decide, fun t ht => k _ t (same_new ht) upd_same⟩
      · have h' : ¬ (i : Int) > (j : Int) := fun q => h (decide_eq_true q)
        exact no rfl (by simp only [Vagral.turned]; rw [if_neg (by omega)])
    | input x => exact ⟨_, rfl, a, _, _, _, rfl, rfl, SqT.of ha, at0, rfl, _, rfl, iteF ⟨_, rfl, a, _, _, _, rfl, rfl, SqT.of ha, at0, rfl, _, rfl, iteF (iteF (no rfl rfl))⟩⟩
    | num x => exact ⟨_, rfl, a, _, _, _, rfl, rfl, SqT.of ha, at0, rfl, _, rfl, iteF ⟨_, rfl, a, _, _, _, rfl, rfl, SqT.of ha, at0, rfl, _, rfl, iteF (iteF (no rfl rfl))⟩⟩
    | sub i j => exact ⟨_, rfl, a, _, _, _, rfl, rfl, SqT.of ha, at0, rfl, _, rfl, iteF ⟨_, rfl, a, _, _, _, rfl, rfl, SqT.of ha, at0, rfl, _, rfl, iteF (iteF (no rfl rfl))⟩⟩
    | div i j => exact ⟨_, rfl, a, _, _, _, rfl, rfl, SqT.of ha, at0, rfl, _, rfl, iteF ⟨_, rfl, a, _, _, _, rfl, rfl, SqT.of ha, at0, rfl, _, rfl, iteF (iteF (no rfl rfl))⟩⟩
    | neg i => exact ⟨_, rfl, a, _, _, _, rfl, rfl, SqT.of ha, at0, rfl, _, rfl, iteF ⟨_, rfl, a, _, _, _, rfl, rfl, SqT.of ha, at0, rfl, _, rfl, iteF (iteF (no rfl rfl))⟩⟩
end
end SD
set_option maxHeartbeats 1000000
namespace SD
open PySem PySem.Spec PyProof.Rows L2
open Vagraa (Frac frac zero one isZero weight)
open VagraLine (Line)
open Vagral (Mode)
section
variable {P : Program} {w : World} {K : PySem.W.Frag} {mg : Str → Option Value} {base : Heap}
/-! ### put -/
def key (l : Line) : List Key := l.told.map Sum.inl
theorem key_lv (l : Line) : (key l).map kV = lv l := by unfold key lv; rw [List.map_map]; rfl
theorem key_inj {a b : Line} (h : key a = key b) : a = b := by
  refine SC.told_inj ?_
  unfold key at h
  exact (List.map_inj_right (fun x y e => Sum.inl.inj e)).mp h
structure Plc (sh : Bool) (c : Cd) (kvs : List (List Key × V)) : Prop where
  len : kvs.length ≤ c.length
  at_ : sh = true → ∀ l : Line, valV kvs (key l) = (c.findIdx? (fun x => decide (x = l))).map fun (i : Nat) => V.int (i : Int)
theorem Plc.nil {sh : Bool} : Plc sh [] [] := ⟨Nat.le_refl _, fun _ l => rfl⟩
theorem Plc.snoc {sh : Bool} {c : Cd} {kvs : List (List Key × V)} {k : Line} (h : Plc sh c kvs) (hk : sh = true → c.findIdx? (fun x => decide (x = k)) = none) : Plc sh (c ++ [k]) (putK kvs (key k) (.int (c.length : Nat))) := by
  refine ⟨?_, fun hs l => ?_⟩
  · have := length_putK kvs (key k) (.int (c.length : Nat))
    have := h.len
    rw [List.length_append]
    show _ ≤ c.length + 1
    omega
  · rw [valV_put, SC.find_snoc (hk hs)]
    by_cases e : l = k
    · subst e; rw [if_pos rfl, if_pos rfl]; rfl
    · rw [if_neg (fun q => e (key_inj q)), if_neg e]; exact h.at_ hs l
def Kp2 (p d : Addr) (H H' : Hp) : Prop := ∀ b o, H b = some o → b ≠ p → b ≠ d → H' b = some o
theorem tup_upd' {H : Hp} {a L : Addr} {o u : HO} {xs : List V} (h : H a = some (.tup xs)) (hl : H L = some u) (hu : ∀ ys, u ≠ .tup ys) : (upd H L o) a = some (.tup xs) := by
  rw [upd_ne]
  · exact h
  · intro e; rw [e, hl] at h; exact hu _ (Option.some.inj h)
def spPut : Sp := fun vs H Q _ => ∃ (p d a : Addr) (m : Nat) (as : List Addr) (c : Cd) (kvs : List (List Key × V)) (x : Vagral.Made), vs = [.ref p, .ref d, .ref a, .int m] ∧ m ≤ 15 ∧ H p = some (.lst (as.map V.ref)) ∧ Lns H as c ∧ H d = some (.dT kvs) ∧ Plc (SC.md m).share c kvs ∧ MdA H a x ∧ c.length ≤ 400 ∧
  ∀ (H' : Hp) (as' : List Addr) (kvs' : List (List Key × V)), Kp2 p d H H' → H' p = some (.lst (as'.map V.ref)) → Lns H' as' (SC.nxt (SC.md m) c x).1 → H' d = some (.dT kvs') → Plc (SC.md m).share (SC.nxt (SC.md m) c x).1 kvs' → Q (.int ((SC.nxt (SC.md m) c x).2 : Nat)) H'
theorem scPut : FnScope ["made", "places", "line", "mode"] ["made", "places", "line", "mode"] (defScope sPut) := ⟨rfl, rfl, rfl, by decide +kernel, rfl, by decide +kernel, by decide +kernel⟩
theorem ok_put (T : Glo K mg) (D : Dx K mg "put" sPut ["made", "places", "line", "mode"]) (C : Fk P w K mg base 1 "in_shared_order" ["line"] spOrd) : Fk P w K mg base 2 "put" ["made", "places", "line", "mode"] spPut := by
  refine D.ok scPut (fun vs H Q E h => ?_) (fun f cdv A outer s H vs Q E hr h => ?_)
  · obtain ⟨p, d, a, m, as, c, kvs, x, rfl, _⟩ := h
    rfl
  · obtain ⟨p, d, a, m, as, c, kvs, x, rfl, hm, hp, hl, hd, hP, ha, hc4, k⟩ := h
    refine ⟨_, pss_cons (ps_if (pt_cmpR op_eq (pe_ix ix_tup (pv 2) pe_int (fun _ _ => rfl)) (pgi T.isLine) (nomark _)) (pss_one (ps_ret (pe_ix ix_tup (pv 2) pe_int (fun _ _ => rfl)))) pss_nil)
      (pss_cons (ps_if (pt_truth (pe_op op_and (pv 3) (pgi T.share)) (fun _ => rfl))
        (pss_cons (ps_set (i := 2) scPut.nd rfl (Or.inl rfl) (pcall C hr (pa_cons (pv 2) pa_nil)))
        (pss_one (ps_if (pt_cmp (pc_din (hu_of hr) (pv 2) (pv 1))) (pss_one (ps_ret (pe_dget (hu_of hr) (pv 1) (pv 2) (fun _ _ => rfl)))) pss_nil))) pss_nil)
      (pss_cons (ps_dput (hu_of hr) (pv 1) (pv 2) (pe_callB call_len_seq rfl T.nLen PySem.boot_len (pa_cons (pv 0) pa_nil)) rfl)
      (pss_cons (ps_expr (pe_bm PySem.F.plainAttrs_list PySem.F.slot_list_append PySem.F.type_list_append mt_append (pv 0) (pa_cons (pv 2) pa_nil)))
      (pss_one (ps_ret (pe_dget (hu_of hr) (pv 1) (pv 2) (fun _ _ => rfl))))))), ?_⟩
    have npd : p ≠ d := ne_of hp hd (by intro z; cases z)
    -- the last rows, given the line at b
    have last : ∀ (H2 : Hp) (b : Addr) (l : Line), Same H H2 → LnA H2 b l → (∀ (H' : Hp) (as' : List Addr) (kvs' : List (List Key × V)), Kp2 p d H H' → H' p = some (.lst (as'.map V.ref)) → Lns H' as' (c ++ [l]) → H' d = some (.dT kvs') → Plc (SC.md m).share (c ++ [l]) kvs' → Q (.int (c.length : Nat)) H') →
        ((SC.md m).share = true → c.findIdx? (fun x => decide (x = l)) = none) →
        ∃ (H4 : Hp), DPut H2 d (.ref b) (.int ((as.map V.ref).length : Nat)) H4 ∧ H4 p = some (.lst (as.map V.ref)) ∧ (as.map V.ref).length < sizeLine ∧ DGet (upd H4 p (.lst (as.map V.ref ++ [.ref b]))) d (.ref b) (some (.int (c.length : Nat))) ∧ Q (.int (c.length : Nat)) (upd H4 p (.lst (as.map V.ref ++ [.ref b]))) := by
      intro H2 b l s2 hb kk hf
      have hal : (as.map V.ref).length = c.length := by rw [List.length_map, hl.len]
      have hb' : H2 b = some (.tup ((key l).map kV)) := by rw [key_lv]; exact hb
      have hd2 := s2 _ _ hd
      have hz : c.length < sizeLine := Nat.lt_of_le_of_lt hc4 (by decide)
      have hbn : (upd (upd H2 d (.dT (putK kvs (key l) (.int (c.length : Nat))))) p (.lst (as.map V.ref ++ [.ref b]))) b = some (.tup (lv l)) := by
        refine tup_upd' (u := .lst (as.map V.ref)) (tup_upd' hb hd2 (by intro ys z; cases z)) ?_ (by intro ys z; cases z)
        rw [upd_ne npd]; exact s2 _ _ hp
      refine ⟨_, DPut.t hd2 hb' (Nat.lt_of_le_of_lt hP.len hz), ?_, by rw [hal]; exact hz, ?_, ?_⟩
      · rw [upd_ne npd]; exact s2 _ _ hp
      · rw [hal]
        have e : valV (putK kvs (key l) (.int (c.length : Nat))) (key l) = some (.int (c.length : Nat)) := by rw [valV_put, if_pos rfl]
        rw [← e]
        refine DGet.t ?_ ?_
        · rw [upd_ne npd.symm, upd_same]
        · rw [key_lv]; exact hbn
      · rw [hal]
        refine kk _ (as ++ [b]) (putK kvs (key l) (.int (c.length : Nat))) (fun z o hz h1 h2 => ?_) ?_ ?_ ?_ (hP.snoc hf)
        · rw [upd_ne h1, upd_ne h2]; exact s2 _ _ hz
        · rw [upd_same, map_snoc]
        · refine Lns.snoc (paired_imp (fun z l' e => ?_) (hl.same s2)) hbn
          refine tup_upd' (u := .lst (as.map V.ref)) (tup_upd' e hd2 (by intro ys z; cases z)) ?_ (by intro ys z; cases z)
          rw [upd_ne npd]; exact s2 _ _ hp
        · rw [upd_ne npd.symm, upd_same]
    cases x with
    | old i =>
      have ha : H a = some (.tup [.int 7, .int i]) := ha
      refine ⟨_, rfl, a, _, _, _, rfl, rfl, SqT.of ha, at0, rfl, _, rfl, iteT ⟨_, rfl, a, _, _, _, rfl, rfl, SqT.of ha, at1, ?_⟩⟩
      exact k H as kvs (fun b o e _ _ => e) hp hl hd hP
    | line l =>
      have ha : LnA H a l := ha
      obtain ⟨r, er⟩ := lv_kd l
      refine ⟨_, rfl, a, _, _, _, rfl, rfl, SqT.of (by rw [← er]; exact ha), at0, rfl, _, rfl, ite2 (fun h => ?_) (fun _ => ?_)⟩
      · exact absurd (int_eq h) (by have := kd_rng l; omega)
      have hb := bit_share hm
      unfold SC.nxt at k
      refine ⟨_, rfl, _, _, rfl, rfl, _, rfl, ite2 (fun h => ?_) (fun h => ?_)⟩
      · have hs : (SC.md m).share = true := by rw [hb]; exact h
        simp only [if_pos hs] at k
        refine ⟨_, rfl, a, l, rfl, ha, fun H2 b s2 hb2 => ?_⟩
        have hat := hP.at_ hs (Vagral.turned l)
        refine ⟨_, rfl, _, rfl, d, _, rfl, DGet.t (s2 _ _ hd) (k := key (Vagral.turned l)) (by rw [key_lv]; exact hb2), _, rfl, ?_⟩
        cases ef : c.findIdx? (fun x => decide (x = Vagral.turned l)) with
        | some i =>
          rw [ef] at hat
          simp only [ef] at k
          rw [hat]
          refine iteT ⟨_, rfl, _, rfl, d, .int (i : Nat), rfl, ?_, ?_⟩
          · have := DGet.t (s2 _ _ hd) (k := key (Vagral.turned l)) (b := b) (by rw [key_lv]; exact hb2)
            rw [hat] at this
            exact this
          · exact k H2 as kvs (fun z o e _ _ => s2 _ _ e) (s2 _ _ hp) (hl.same s2) (s2 _ _ hd) hP
        | none =>
          rw [ef] at hat
          simp only [ef] at k
          rw [hat]
          obtain ⟨H4, q1, q2, q3, q4, q5⟩ := last H2 b (Vagral.turned l) s2 hb2 k (fun _ => ef)
          exact iteF ⟨_, rfl, p, _, rfl, .inl (SqL.of (s2 _ _ hp)), _, rfl, _, rfl, d, H4, rfl, q1, _, rfl, .inl ⟨rfl, _, SqL.of q2⟩, _, rfl, p, _, _, rfl, rfl, q2, q3, _, rfl, _, rfl, d, _, rfl, q4, q5⟩
      · have hs : ¬ (SC.md m).share = true := by rw [hb]; exact h
        simp only [if_neg hs] at k
        obtain ⟨H4, q1, q2, q3, q4, q5⟩ := last H a l (Same.refl H) ha k (fun q => absurd q hs)
        exact ⟨_, rfl, p, _, rfl, .inl (SqL.of hp), _, rfl, _, rfl, d, H4, rfl, q1, _, rfl, .inl ⟨rfl, _, SqL.of q2⟩, _, rfl, p, _, _, rfl, rfl, q2, q3, _, rfl, _, rfl, d, _, rfl, q4, q5⟩
end
end SD
set_option maxHeartbeats 1000000
namespace SD
open PySem PySem.Spec PyProof.Rows L2
open Vagraa (Frac frac zero one isZero weight)
open VagraLine (Line)
open Vagral (Mode)
section
variable {P : Program} {w : World} {K : PySem.W.Frag} {mg : Str → Option Value} {base : Heap}
/-! ### the class Made -/
abbrev sMadeI : Stmt := inClass sMade 0
structure TMade (K : PySem.W.Frag) (mg : Str → Option Value) (C fI : Addr) (fdI : FuncData) : Prop where
  cl : Cls K C
  nL : NoAttr K C "lines"
  nW : NoAttr K C "went"
  mgC : mg "Made" = some (.ref C)
  mkc : Mk K C fI
  F : Fun K "__init__" "Made.__init__" sMadeI fI fdI
  b : Binds K fdI ["self", "lines", "went"] []
def mf (u v : V) : List (Str × V) := putF "went" v (putF "lines" u [])
theorem mf_lines (u v : V) : (mf u v).lookup ("lines" : Str) = some u := by unfold mf; rw [lookup_putF, if_neg (by decide +kernel), lookup_putF, if_pos rfl]
theorem mf_went (u v : V) : (mf u v).lookup ("went" : Str) = some v := by unfold mf; rw [lookup_putF, if_pos rfl]
/-- a Made stands at q -/
def MadeAt (C : Addr) (H : Hp) (q : Addr) (c : Cd) (to : List Int) : Prop := ∃ dx pl pw, H q = some (.ins C dx (mf (.ref pl) (.ref pw))) ∧ CodeAt H pl c ∧ H pw = some (.lst (to.map V.int))
/-- .. and its list of lines is new -/
def MadeN (C : Addr) (H0 H : Hp) (q : Addr) (c : Cd) (to : List Int) : Prop := ∃ dx pl pw, H q = some (.ins C dx (mf (.ref pl) (.ref pw))) ∧ CodeAt H pl c ∧ H pw = some (.lst (to.map V.int)) ∧ H0 pl = none
theorem MadeN.made {C : Addr} {H0 H : Hp} {q : Addr} {c : Cd} {to : List Int} (h : MadeN C H0 H q c to) : MadeAt C H q c to := by
  obtain ⟨dx, pl, pw, h1, h2, h3, _⟩ := h
  exact ⟨dx, pl, pw, h1, h2, h3⟩
theorem MadeN.back {C : Addr} {H0 H1 H : Hp} {q : Addr} {c : Cd} {to : List Int} (h : MadeN C H1 H q c to) (s : Same H0 H1) : MadeN C H0 H q c to := by
  obtain ⟨dx, pl, pw, h1, h2, h3, h4⟩ := h
  exact ⟨dx, pl, pw, h1, h2, h3, s.free h4⟩
def spMI (C : Addr) : Sp := fun vs H Q _ => ∃ (x dx : Addr) (u v : V), vs = [.ref x, u, v] ∧ H x = some (.ins C dx []) ∧ ∀ H' : Hp, H' x = some (.ins C dx (mf u v)) → (∀ b o, H b = some o → b ≠ x → H' b = some o) → Q .non H'
theorem scMI : FnScope ["self", "lines", "went"] ["self", "lines", "went"] (defScope sMadeI) := ⟨rfl, rfl, rfl, by decide +kernel, rfl, by decide +kernel, by decide +kernel⟩
theorem ok_MI {C fI : Addr} {fdI : FuncData} (T : TMade K mg C fI fdI) : FnOk P w K mg base CX0 1 fI fdI ["self", "lines", "went"] (spMI C) := by
  refine T.F.ok scMI (fun vs H Q E h => ?_) (fun cdv A outer s H vs Q E hr h => ?_)
  · obtain ⟨x, dx, u, v, rfl, _⟩ := h
    rfl
  · obtain ⟨x, dx, u, v, rfl, hx, k⟩ := h
    refine ⟨_, pss_cons (ps_fld (pv 0) (pv 1) rfl) (pss_one (ps_fld (pv 0) (pv 2) rfl)), ?_⟩
    refine ⟨_, rfl, _, rfl, x, C, dx, [], rfl, hx, T.cl, T.nL, (by show 0 < 1000; decide), ?_⟩
    refine ⟨_, rfl, _, rfl, x, C, dx, _, rfl, upd_same, T.cl, T.nW, (by show 1 < 1000; decide), ?_⟩
    exact k _ upd_same fun b o e hb => by rw [upd_ne hb, upd_ne hb]; exact e
/-! ### lines_anew -/
def zsOf (to : List Nat) : List Int := to.map fun (n : Nat) => (n : Int)
def spAnew (C : Addr) : Sp := fun vs H Q _ => ∃ (p : Addr) (m ni : Nat) (c : Cd), vs = [.ref p, .int m] ∧ m ≤ 15 ∧ CodeAt H p c ∧ SC.Ord ni c ∧ c.length ≤ 80 ∧ ∀ (H' : Hp) (q : Addr), Same H H' → MadeN C H H' q (Vagral.built (SC.md m) c).code (zsOf (Vagral.built (SC.md m) c).to) → Q (.ref q) H'
theorem scAnew : FnScope ["lines", "mode", "made", "places", "went", "line", "left"] ["lines", "mode"] (defScope sAnew) := ⟨rfl, rfl, rfl, by decide +kernel, rfl, by decide +kernel, by decide +kernel⟩
theorem ok_anew {CM fI : Addr} {fdI : FuncData} (T : Glo K mg) (TM : TMade K mg CM fI fdI) (D : Dx K mg "lines_anew" sAnew ["lines", "mode"]) (C : Fk P w K mg base 8 "settled" ["made", "line", "mode"] spSet) (C2 : Fk P w K mg base 3 "with_lines_replaced" ["line", "numbers"] (spRepl K)) (C3 : Fk P w K mg base 2 "put" ["made", "places", "line", "mode"] spPut) :
    Fk P w K mg base 9 "lines_anew" ["lines", "mode"] (spAnew CM) := by
  refine D.ok scAnew (fun vs H Q E h => ?_) (fun f cdv A outer s H vs Q E hr h => ?_)
  · obtain ⟨p, m, ni, c, rfl, _⟩ := h
    rfl
  · obtain ⟨p, m, ni, c, rfl, hm, ⟨as, hp, hl⟩, hO, hlen, k⟩ := h
    refine ⟨_, pss_cons (ps_set (i := 2) scAnew.nd rfl (Or.inl rfl) (pe_lst pa_nil)) (pss_cons (ps_set (i := 3) scAnew.nd rfl (Or.inl rfl) pe_dnewT) (pss_cons (ps_set (i := 4) scAnew.nd rfl (Or.inl rfl) (pe_lst pa_nil))
      (pss_cons (ps_for PassesOwn.never rfl (pi_list (pv 0)) (pg_name (i := 5) scAnew.nd rfl (Or.inl rfl))
        (pss_cons (ps_set (i := 6) scAnew.nd rfl (Or.inl rfl) (pcall C hr (pa_cons (pv 2) (pa_cons (pcall C2 (hr.mono (by decide)) (pa_cons (pv 5) (pa_cons (pv 4) pa_nil))) (pa_cons (pv 1) pa_nil)))))
        (pss_one (ps_expr (pe_bm PySem.F.plainAttrs_list PySem.F.slot_list_append PySem.F.type_list_append mt_append (pv 4) (pa_cons (pcall C3 (hr.mono (by decide)) (pa_cons (pv 2) (pa_cons (pv 3) (pa_cons (pv 6) (pa_cons (pv 1) pa_nil))))) pa_nil))))))
      (pss_one (ps_ret (pe_make TM.mkc (ok_MI TM) (hr.mono (by decide)) rfl TM.mgC TM.b .nil pass0 (pa_cons (pv 2) (pa_cons (pv 4) pa_nil)))))))), ?_⟩
    refine ⟨by show 0 ≤ sizeLine; decide, fun pm fm => fun pd fd1 => ⟨by show 0 ≤ sizeLine; decide, fun pw fw1 => ?_⟩⟩
    have sm : Same H (upd H pm (.lst [])) := same_new fm
    have sd : Same (upd H pm (.lst [])) (upd (upd H pm (.lst [])) pd (.dT [])) := same_new fd1
    have sw := same_new (o := .lst []) fw1
    have fd : H pd = none := sm.free fd1
    have fw : H pw = none := (sm.trans sd).free fw1
    have nmd : pm ≠ pd := ne_of_none (upd_same (H := H) (a := pm)) fd1
    have nmw : pm ≠ pw := ne_of_none (sd _ _ upd_same) fw1
    have ndw : pd ≠ pw := ne_of_none upd_same fw1
    refine ⟨_, rfl, p, rfl, ⟨_, SqL.of ((sm.trans (sd.trans sw)) _ _ hp)⟩, for_list (xs := as.map V.ref) (fun i σ Hc => ∃ (x y : Option V) (as' : List Addr) (kvs : List (List Key × V)), σ = [some (.ref p), some (.int m), some (.ref pm), some (.ref pd), some (.ref pw), x, y] ∧ Same H Hc ∧ Hc pm = some (.lst (as'.map V.ref)) ∧ Lns Hc as' (SC.made (SC.md m) c i).code ∧
      Hc pd = some (.dT kvs) ∧ Plc (SC.md m).share (SC.made (SC.md m) c i).code kvs ∧ Hc pw = some (.lst (nats (SC.made (SC.md m) c i).to))) ⟨none, none, [], [], rfl, sm.trans (sd.trans sw), sw _ _ (sd _ _ upd_same), .nil, sw _ _ upd_same, Plc.nil, upd_same⟩ (fun i σ Hc _ ⟨x, y, as', kvs, e, g, _⟩ => SqL.of (g _ _ hp)) ?_ ?_⟩
    · rintro i v σ Hc hv ⟨x, y, as', kvs, rfl, g, h1, h2, h3, h4, h5⟩
      obtain ⟨a, l, rfl, hci, hla⟩ := ref_get hl hv
      have hi : i < c.length := (List.getElem?_eq_some_iff.mp hci).1
      have B := SC.made_ok (m := SC.md m) hO i (by omega)
      have en := SC.made_succ (m := SC.md m) hci
      rw [SC.next_nxt] at en
      generalize SC.made (SC.md m) c i = b at *
      have hlw := hO.low i l hci
      refine ⟨_, rfl, _, rfl, _, rfl, a, pw, l, zsOf b.to, rfl, g _ _ hla, SqL.of (by rw [h5, nats_eq]; rfl), (fun u hu => by unfold zsOf; rw [List.length_map, B.len]; exact hlw u hu), fun H2 q s2 hq => ?_⟩
      have hq' : LnA H2 q (Vagral.moved b.to l) := by
        have e : SC.rep l (zsOf b.to) = (Vagral.moved b.to l).told := SC.rep_moved (by rw [B.len]; exact hlw)
        rw [e] at hq
        exact hq
      refine ⟨_, rfl, pm, q, m, b.code, _, ni, rfl, hm, ⟨as', s2 _ _ h1, h2.same s2⟩, hq', B.ord, B.nf, ⟨SC.moved_low B hlw, SC.moved_fit (hO.fit i l hci)⟩, fun H3 r s3 hr3 => ?_⟩
      have s23 := s2.trans s3
      refine ⟨_, rfl, .inl ⟨rfl, _, SqL.of (s23 _ _ h5)⟩, _, rfl, _, rfl, _, rfl, _, rfl, pm, pd, r, m, as', b.code, kvs, _, rfl, hm, s23 _ _ h1, h2.same s23, s23 _ _ h3, h4, hr3, by have := B.few; omega, fun H4 as4 kvs4 kp g1 g2 g3 g4 => ?_⟩
      have hw4 := kp pw _ (s23 _ _ h5) nmw.symm ndw.symm
      refine ⟨pw, _, _, rfl, rfl, hw4, ?_, ?_⟩
      · rw [nats_len, B.len]; exact Nat.lt_of_le_of_lt (show i ≤ 80 by omega) (by decide)
      rw [en]
      refine ⟨_, _, as4, kvs4, rfl, fun z o ez => ?_, ?_, g2.updL hw4, ?_, g4, ?_⟩
      · rw [upd_ne (ne_of_none ez fw)]
        exact kp z o (s23 _ _ (g _ _ ez)) (ne_of_none ez fm) (ne_of_none ez fd)
      · rw [upd_ne nmw]; exact g1
      · rw [upd_ne ndw]; exact g3
      · rw [upd_same, nats_snoc]
    · rintro σ Hc ⟨x, y, as', kvs, rfl, g, h1, h2, h3, h4, h5⟩
      rw [List.length_map, hl.len, SC.made_all] at h2 h5
      refine ⟨_, rfl, _, rfl, fun z dz nz ndz nez => ⟨z, dz, _, _, rfl, upd_same, fun H' g1 g2 => ⟨rfl, ?_⟩⟩⟩
      have s' : Same Hc H' := Same.made nz ndz g2
      refine k H' z (g.trans s') ⟨dz, pm, pw, g1, ⟨as', s' _ _ h1, h2.same s'⟩, ?_, fm⟩
      rw [s' _ _ h5, nats_eq]
      rfl
end
end SD
set_option maxHeartbeats 1000000
namespace SD
open PySem PySem.Spec PyProof.Rows L2
open Vagraa (Frac frac zero one isZero weight)
open VagraLine (Line)
open Vagral (Mode)
section
variable {P : Program} {w : World} {K : PySem.W.Frag} {mg : Str → Option Value} {base : Heap}
/-! ### needed_lines -/
def spNeed : Sp := fun vs H Q _ => ∃ (p o : Addr) (c : Cd) (os : List Nat) (ni : Nat), vs = [.ref p, .ref o] ∧ CodeAt H p c ∧ SC.Ord ni c ∧ c.length ≤ 80 ∧ H o = some (.lst (nats os)) ∧ (∀ x ∈ os, x < c.length) ∧ RetL H (((List.range c.length).map (SC.isN c os)).map V.bl) Q
theorem scNeed : FnScope ["lines", "outs", "needed", "line", "out", "at", "used"] ["lines", "outs"] (defScope sNeeded) := ⟨rfl, rfl, rfl, by decide +kernel, rfl, by decide +kernel, by decide +kernel⟩
theorem ixN_nat {n j : Nat} {i : Int} (e : i = (j : Int)) (h : j < n) : ixN n i = some j := by
  subst e
  unfold ixN
  rw [if_pos (by omega), if_pos (by omega)]
  rfl
theorem bl_get {nb : List Bool} {j : Nat} {b : Bool} (h : nb[j]? = some b) : (nb.map V.bl)[j]? = some (V.bl b) := by rw [List.getElem?_map, h]; rfl
theorem ok_need (T : Glo K mg) (D : Dx K mg "needed_lines" sNeeded ["lines", "outs"]) (C : Fk P w K mg base 2 "used_lines" ["line"] spUsed) : Fk P w K mg base 3 "needed_lines" ["lines", "outs"] spNeed := by
  refine D.ok scNeed (fun vs H Q E h => ?_) (fun f cdv A outer s H vs Q E hr h => ?_)
  · obtain ⟨p, o, c, os, ni, rfl, _⟩ := h
    rfl
  · obtain ⟨p, o, c, os, ni, rfl, ⟨as, hp, hl⟩, hO, hlen, ho, hos, k⟩ := h
    refine ⟨_, pss_cons (ps_setLc (i := 2) rfl scNeed.nd rfl rfl (sw_true rfl rfl rfl rfl) (pi_list (pv 0)) (blkOk_by (own := [("line", 3)]) rfl)
          (fun _ _ _ _ _ => pg_name (i := 3) scNeed.nd rfl (Or.inl rfl)) (fun _ _ _ _ _ => pts_nil) (fun _ _ _ _ _ => pe_bl))
      (pss_cons (ps_for PassesOwn.never rfl (pi_list (pv 1)) (pg_name (i := 4) scNeed.nd rfl (Or.inl rfl)) (pss_one (ps_asg pe_bl (pg_sub (pv 2) (pv 4) set_list))))
      (pss_cons (ps_for PassesOwn.never rfl (pi_range3 rfl T.nRange (pa_cons (pe_op op_sub (pe_callB call_len_seq rfl T.nLen PySem.boot_len (pa_cons (pv 0) pa_nil)) pe_int) (pa_cons (pe_un un_neg pe_int) (pa_cons (pe_un un_neg pe_int) pa_nil)))) (pg_name (i := 5) scNeed.nd rfl (Or.inl rfl))
        (pss_one (ps_if (pt_truth (pe_ix ix_list (pv 2) (pv 5) (fun _ _ => rfl)) (fun _ => rfl)) (pss_one (ps_for PassesOwn.never rfl (pi_tup (pcall C hr (pa_cons (pe_ix ix_list (pv 0) (pv 5) (fun _ _ => rfl)) pa_nil))) (pg_name (i := 6) scNeed.nd rfl (Or.inl rfl)) (pss_one (ps_asg pe_bl (pg_sub (pv 2) (pv 6) set_list))))) pss_nil)))
      (pss_one (ps_ret (pv 2))))), ?_⟩
    have hzl : (as.map V.ref).length ≤ sizeLine := by rw [List.length_map, hl.len]; exact Nat.le_trans hlen (by decide)
    refine ⟨_, rfl, p, rfl, ⟨_, SqL.of hp⟩, fun D hD => ?_⟩
    refine lc_mapL (xs := as.map V.ref) (fun _ => V.bl false) hD (SqL.of hp) hzl (fun j z H3 k3 hz s3 kk => ⟨rfl, kk H3 (Same.refl H3)⟩) (fun H1 s1 hD1 => ?_)
    have e0 : (List.range (as.map V.ref).length).map (fun _ => V.bl false) = (List.replicate c.length false).map V.bl := by
      rw [List.length_map, hl.len, List.map_replicate]
      apply List.ext_getElem?
      intro i
      rw [List.getElem?_map, List.getElem?_replicate]
      by_cases hi : i < c.length
      · rw [List.getElem?_range hi, if_pos hi]; rfl
      · rw [List.getElem?_eq_none (by simp; omega), if_neg hi]; rfl
    rw [e0] at hD1
    refine ⟨_, rfl, o, rfl, ⟨_, SqL.of (s1 _ _ ho)⟩, for_list (xs := nats os) (fun i σ Hc => ∃ (x : Option V) (nb : List Bool), σ = [some (.ref p), some (.ref o), some (.ref D), none, x, none, none] ∧ Gw H Hc D (nb.map V.bl) ∧ nb.length = c.length ∧ SC.Marks nb (os.take i))
      ⟨none, _, rfl, ⟨s1, hD, hD1⟩, List.length_replicate, SC.Marks.none⟩ (fun i σ Hc _ ⟨x, nb, e, g, _⟩ => SqL.of (g.s _ _ ho)) ?_ ?_⟩
    · rintro i v σ Hc hv ⟨x, nb, rfl, g, hnl, hM⟩
      obtain ⟨u, hu1, rfl⟩ := nats_of hv
      have hu : u < nb.length := by rw [hnl]; exact hos u (List.mem_of_getElem? hu1)
      refine ⟨_, rfl, _, rfl, D, _, _, u, rfl, rfl, g.l, ixN_nat rfl (by rw [List.length_map]; exact hu), _, nb.set u true, rfl, ?_, by rw [List.length_set]; exact hnl, ?_⟩
      · rw [List.map_set]; exact g.put _
      · rw [SC.take_snoc hu1]; exact hM.set hu
    · rintro σ Hc ⟨x, nb, rfl, g, hnl, hM⟩
      rw [nats_len, List.take_length] at hM
      have hrg : RgC ((c.length : Int) - 1) (-1) (-1) c.length := by
        have := RgC.neg (i := (c.length : Int) - 1) (j := -1) (by omega) (by omega) (by decide) (by decide)
        rw [show ((c.length : Int) - 1 - -1).toNat = c.length by omega] at this
        exact this
      refine ⟨_, rfl, p, _, rfl, .inl (SqL.of (g.s _ _ hp)), _, _, rfl, rfl, _, rfl, _, rfl, (c.length : Int) - 1, -1, -1, c.length, by rw [List.length_map, hl.len], hrg, for_rangeC (fun k σ Hc => ∃ (x y z : Option V) (nb : List Bool), σ = [some (.ref p), some (.ref o), some (.ref D), none, x, y, z] ∧ Gw H Hc D (nb.map V.bl) ∧ nb.length = c.length ∧ SC.Marks nb (SC.nd c os k))
        ⟨_, _, _, nb, rfl, g, hnl, hM⟩ ?_ ?_⟩
      · rintro i σ Hc hi ⟨x, y, z, nb, rfl, g, hnl, hM⟩
        have ei : (c.length : Int) - 1 + (i : Int) * -1 = ((c.length - 1 - i : Nat) : Int) := by omega
        have ht : c.length - 1 - i < c.length := by omega
        have hnd := SC.nd_succ (o := os) hi
        have hMt := hM (c.length - 1 - i) (by omega)
        refine ⟨_, rfl, _, rfl, D, _, _, _, rfl, rfl, SqL.of g.l, at_of ei (bl_get hMt), _, rfl, ite2 (fun h => ?_) (fun h => ?_)⟩
        · rw [if_pos h] at hnd
          obtain ⟨xs, a, q1, q2, q3⟩ := (show CodeAt Hc p c from ⟨as, g.s _ _ hp, hl.same g.s⟩).get (K := K) (SC.get_lineAt ht)
          rw [← ei] at q2
          have hlw := hO.low _ _ (SC.get_lineAt ht)
          refine ⟨_, rfl, _, rfl, p, _, _, _, rfl, rfl, q1, q2, a, _, rfl, q3, fun H2 q s2 hq => ⟨q, rfl, ⟨_, SqT.of hq⟩, for_tup (xs := nats (Vagral.lineAt c (c.length - 1 - i)).uses) (fun t σ Hc => ∃ (x y z : Option V) (nb : List Bool), σ = [some (.ref p), some (.ref o), some (.ref D), none, x, y, z] ∧ Gw H Hc D (nb.map V.bl) ∧ nb.length = c.length ∧ SC.Marks nb (SC.nd c os i ++ (Vagral.lineAt c (c.length - 1 - i)).uses.take t) ∧ Hc q = some (.tup (nats (Vagral.lineAt c (c.length - 1 - i)).uses)))
            ⟨_, _, _, nb, rfl, g.same s2, hnl, by rw [List.take_zero, List.append_nil]; exact hM, hq⟩ (fun t σ Hc _ ⟨x, y, z, nb, _, _, _, _, hq⟩ => SqT.of hq) ?_ ?_⟩⟩
          · rintro t v σ Hc hv ⟨x, y, z, nb, rfl, g, hnl, hM, hq⟩
            obtain ⟨u, hu1, rfl⟩ := nats_of hv
            have hu : u < nb.length := by have := hlw u (List.mem_of_getElem? hu1); omega
            refine ⟨_, rfl, _, rfl, D, _, _, u, rfl, rfl, g.l, ixN_nat rfl (by rw [List.length_map]; exact hu), _, _, _, nb.set u true, rfl, ?_, by rw [List.length_set]; exact hnl, ?_, tup_upd hq g.l⟩
            · rw [List.map_set]; exact g.put _
            · rw [SC.take_snoc hu1, ← List.append_assoc]; exact hM.set hu
          · rintro σ Hc ⟨x, y, z, nb, rfl, g, hnl, hM, hq⟩
            rw [nats_len, List.take_length, ← hnd] at hM
            exact ⟨_, _, _, nb, rfl, g, hnl, hM⟩
        · rw [if_neg h] at hnd
          exact ⟨_, _, _, nb, rfl, g, hnl, by rw [hnd]; exact hM⟩
      · rintro σ Hc ⟨x, y, z, nb, rfl, g, hnl, hM⟩
        rw [SC.nd_all] at hM
        refine ⟨_, rfl, k Hc D g.s hD ?_⟩
        rw [← hM.all hnl]
        exact g.l
end
end SD
set_option maxHeartbeats 1000000
namespace SD
open PySem PySem.Spec PyProof.Rows L2
open Vagraa (Frac frac zero one isZero weight)
open VagraLine (Line)
open Vagral (Mode)
section
variable {P : Program} {w : World} {K : PySem.W.Frag} {mg : Str → Option Value} {base : Heap}
/-- e.f, by the numbers of the top -/
theorem pfld (K : PySem.W.Frag) {X : Cx} {e : Expr} {f : Str} {pos : Pos} {ta : TE} (hK : X.K = K) (he : PE X e ta) (hb : attributeBase e f X.env (eval e X.env) = eval e X.env) : PE X (.Attribute e f pos) (tFld K ta f) := by
  subst hK
  exact pe_fld he hb
/-! ### without_dead -/
def spDead (C : Addr) : Sp := fun vs H Q _ => ∃ (q o : Addr) (c : Cd) (to outs : List Nat) (ni : Nat), vs = [.ref q, .ref o] ∧ MadeAt C H q c (zsOf to) ∧ SC.Ord ni c ∧ c.length ≤ 80 ∧ to.length ≤ 80 ∧ (∀ t ∈ to, t < c.length) ∧ H o = some (.lst (nats outs)) ∧ outs.length ≤ 12 ∧ (∀ x ∈ outs, x < to.length) ∧
  ∀ (H' : Hp) (z : Addr), Same H H' → MadeN C H H' z (SC.kl c (SC.PN ⟨c, to⟩ outs) c.length) (to.map (SC.num (SC.PN ⟨c, to⟩ outs))) → Q (.ref z) H'
theorem scDead : FnScope ["made", "outs", "needed", "out", "kept", "numbers", "line", "stays", "new"] ["made", "outs"] (defScope sDead) := ⟨rfl, rfl, rfl, by decide +kernel, rfl, by decide +kernel, by decide +kernel⟩
theorem ok_dead {CM fI : Addr} {fdI : FuncData} (T : Glo K mg) (TM : TMade K mg CM fI fdI) (D : Dx K mg "without_dead" sDead ["made", "outs"]) (C : Fk P w K mg base 3 "needed_lines" ["lines", "outs"] spNeed) (C2 : Fk P w K mg base 3 "with_lines_replaced" ["line", "numbers"] (spRepl K)) :
    Fk P w K mg base 4 "without_dead" ["made", "outs"] (spDead CM) := by
  refine D.ok scDead (fun vs H Q E h => ?_) (fun f cdv A outer s H vs Q E hr h => ?_)
  · obtain ⟨q, o, c, to, outs, ni, rfl, _⟩ := h
    rfl
  · obtain ⟨q, o, c, to, outs, ni, rfl, ⟨dx, pl, pw, hq, ⟨as, hp, hl⟩, hw⟩, hO, hlen, htl, hto, ho, hol, hos, k⟩ := h
    refine ⟨_, pss_cons (ps_set (i := 2) scDead.nd rfl (Or.inl rfl) (pcall C hr (pa_cons (pe_fld (pv 0) rfl) (pa_cons (pe_lc rfl scDead.nd (pi_list (pv 1)) (blkOk_by (own := [("out", 3)]) rfl)
          (fun _ _ _ _ _ => pg_name (i := 3) scDead.nd rfl (Or.inl rfl)) (fun _ _ _ _ _ => pts_nil) (fun _ _ _ _ _ => pe_ix (r := rIxL K) ix_list (pfld K rfl (pv 0) rfl) (pv 3) (fun _ _ => rfl))) pa_nil))))
      (pss_cons (ps_set (i := 4) scDead.nd rfl (Or.inl rfl) (pe_lst pa_nil)) (pss_cons (ps_set (i := 5) scDead.nd rfl (Or.inr rfl) (pe_lst pa_nil))
      (pss_cons (ps_for PassesOwn.never rfl (pi_zip rfl T.nZip (pa_cons (pe_fld (pv 0) rfl) (pa_cons (pv 2) pa_nil))) (pg_tup rfl (pgs_cons (pg_name (i := 6) scDead.nd rfl (Or.inl rfl)) (pgs_cons (pg_name (i := 7) scDead.nd rfl (Or.inl rfl)) pgs_nil)))
        (pss_one (ps_if (pt_truth (pv 7) (fun _ => rfl))
          (pss_cons (ps_expr (pe_bm PySem.F.plainAttrs_list PySem.F.slot_list_append PySem.F.type_list_append mt_append (pv 5) (pa_cons (pe_callB call_len_seq rfl T.nLen PySem.boot_len (pa_cons (pv 4) pa_nil)) pa_nil)))
          (pss_one (ps_expr (pe_bm PySem.F.plainAttrs_list PySem.F.slot_list_append PySem.F.type_list_append mt_append (pv 4) (pa_cons (pcall C2 hr (pa_cons (pv 6) (pa_cons (pv 5) pa_nil))) pa_nil)))))
          (pss_one (ps_expr (pe_bm PySem.F.plainAttrs_list PySem.F.slot_list_append PySem.F.type_list_append mt_append (pv 5) (pa_cons (pgi T.gone) pa_nil)))))))
      (pss_one (ps_ret (pe_make TM.mkc (ok_MI TM) (hr.mono (by decide)) rfl TM.mgC TM.b .nil pass0 (pa_cons (pv 4) (pa_cons (pe_lc rfl scDead.nd (pi_list (pe_fld (pv 0) rfl)) (blkOk_by (own := [("new", 8)]) rfl)
          (fun _ _ _ _ _ => pg_name (i := 8) scDead.nd rfl (Or.inl rfl)) (fun _ _ _ _ _ => pts_nil) (fun _ _ _ _ _ => pe_ix (r := rIxL K) ix_list (pv 5) (pv 8) (fun _ _ => rfl))) pa_nil)))))))), ?_⟩
    have hw' : H pw = some (.lst (nats to)) := by rw [hw, nats_eq]; rfl
    refine ⟨_, rfl, q, CM, dx, _, _, rfl, hq, TM.cl, TM.nL, mf_lines _ _, _, rfl, o, rfl, ⟨_, SqL.of ho⟩, fun D hD => ?_⟩
    refine lc_mapL (xs := nats outs) (fun j => V.int ((to.getD (outs.getD j 0) 0 : Nat) : Int)) hD (SqL.of ho) (by rw [nats_len]; exact Nat.le_trans hol (by decide)) (fun j z H3 k3 hz s3 kk => ?_) (fun H1 s1 hD1 => ?_)
    · obtain ⟨u, hu1, rfl⟩ := nats_of hz
      refine ⟨rfl, _, rfl, q, CM, dx, _, _, rfl, s3 _ _ hq, TM.cl, TM.nW, mf_went _ _, _, rfl, pw, _, _, _, rfl, rfl, SqL.of (s3 _ _ hw'), atI_nat (j := u) (nats_get (hos u (List.mem_of_getElem? hu1))), ?_⟩
      have := kk H3 (Same.refl H3)
      rw [getD_of hu1] at this
      exact this
    have eD : (List.range (nats outs).length).map (fun j => V.int ((to.getD (outs.getD j 0) 0 : Nat) : Int)) = nats (outs.map fun i => to.getD i 0) := by
      unfold nats
      rw [List.map_map, List.length_map]
      exact range_map_get fun j u e => by rw [getD_of e]; rfl
    rw [eD] at hD1
    have hos' : ∀ x ∈ (outs.map fun i => to.getD i 0), x < c.length := fun x hx => by
      obtain ⟨i, hi, rfl⟩ := List.mem_map.mp hx
      have := hos i hi
      refine hto _ ?_
      rw [List.getD_eq_getElem?_getD, List.getElem?_eq_getElem this]
      exact List.getElem_mem this
    have ePN : SC.PN ⟨c, to⟩ outs = SC.isN c (outs.map fun i => to.getD i 0) := rfl
    rw [ePN] at k
    generalize (outs.map fun i => to.getD i 0) = os' at hD1 hos' k
    refine ⟨pl, D, c, os', ni, rfl, ⟨as, s1 _ _ hp, hl.same s1⟩, hO, hlen, hD1, hos', fun H2 N s2 hn hN => ?_⟩
    have S2 := s1.trans s2
    refine ⟨by show 0 ≤ sizeLine; decide, fun pk fk => ⟨by show 0 ≤ sizeLine; decide, fun pn fn1 => ?_⟩⟩
    have sk : Same H2 (upd H2 pk (.lst [])) := same_new fk
    have sn := same_new (o := .lst []) fn1
    have fn : H2 pn = none := sk.free fn1
    have nkn : pk ≠ pn := ne_of_none upd_same fn1
    have S3 := S2.trans (sk.trans sn)
    have hxy : (as.map V.ref).length = (((List.range c.length).map (SC.isN c os')).map V.bl).length := by simp [hl.len]
    generalize hPe : SC.isN c os' = Pn at *
    refine ⟨_, rfl, q, CM, dx, _, _, rfl, S3 _ _ hq, TM.cl, TM.nL, mf_lines _ _, _, rfl, pl, N, _, _, rfl, SqL.of (S3 _ _ hp), SqL.of ((sk.trans sn) _ _ hN), for_zip (xs := as.map V.ref) (ys := ((List.range c.length).map Pn).map V.bl)
      (fun i σ Hc => ∃ (x y : Option V) (as' : List Addr), σ = [some (.ref q), some (.ref o), some (.ref N), none, some (.ref pk), some (.ref pn), x, y, none] ∧ Same H2 Hc ∧ Hc pk = some (.lst (as'.map V.ref)) ∧ Lns Hc as' (SC.kl c Pn i) ∧ Hc pn = some (.lst (((List.range i).map (SC.num Pn)).map V.int)))
      hxy ⟨none, none, [], rfl, sk.trans sn, sn _ _ upd_same, .nil, upd_same⟩ (fun i σ Hc _ ⟨x, y, as', _, g, _⟩ => ⟨SqL.of ((S2.trans g) _ _ hp), SqL.of (g _ _ hN)⟩) ?_ ?_⟩
    · rintro i x y σ Hc t hx hy ⟨x0, y0, as', rfl, g, h1, h2, h3⟩ ht
      obtain ⟨a, l, rfl, hci, hla⟩ := ref_get hl hx
      have hi : i < c.length := (List.getElem?_eq_some_iff.mp hci).1
      have hli : Vagral.lineAt c i = l := SC.lineAt_get hci
      obtain rfl : V.bl (Pn i) = y := by
        rw [List.getElem?_map, List.getElem?_map, List.getElem?_range hi] at hy
        exact Option.some.inj hy
      have st : Same Hc (upd Hc t (.tup [.ref a, .bl (Pn i)])) := same_new ht
      refine ⟨t, _, rfl, SqT.of upd_same, rfl, _, _, rfl, _, _, rfl, rfl, _, rfl, _, rfl, ?_⟩
      generalize upd Hc t (.tup [.ref a, .bl (Pn i)]) = Ht at st
      have g1 := g.trans st
      have h1 := st _ _ h1
      have h3 := st _ _ h3
      have h2 := h2.same st
      have hnl : (((List.range i).map (SC.num Pn)).map V.int).length = i := by simp
      have hnz : (((List.range i).map (SC.num Pn)).map V.int).length < sizeLine := by rw [hnl]; exact Nat.lt_of_le_of_lt (show i ≤ 80 by omega) (by decide)
      have nums : ((List.range i).map (SC.num Pn)).map V.int ++ [V.int (SC.num Pn i)] = ((List.range (i + 1)).map (SC.num Pn)).map V.int := by rw [List.range_succ, List.map_append, List.map_append]; rfl
      refine ite2 (fun h => ?_) (fun h => ?_)
      · have hasl : as'.length = SC.rn Pn i := by rw [h2.len, SC.kl_len]
        have en : V.int ((as'.map V.ref).length : Nat) = V.int (SC.num Pn i) := by
          unfold SC.num
          rw [if_pos h, List.length_map, hasl]
        refine ⟨_, rfl, .inl ⟨rfl, _, SqL.of h3⟩, _, rfl, pk, _, rfl, .inl (SqL.of h1), pn, _, _, rfl, rfl, h3, hnz, ?_⟩
        rw [en, nums]
        have g4 : Same H2 (upd Ht pn (.lst (((List.range (i + 1)).map (SC.num Pn)).map V.int))) := same_upd g1 fn
        have h14 : (upd Ht pn (.lst (((List.range (i + 1)).map (SC.num Pn)).map V.int))) pk = some (.lst (as'.map V.ref)) := by rw [upd_ne nkn]; exact h1
        have h24 := h2.updL (o := .lst (((List.range (i + 1)).map (SC.num Pn)).map V.int)) h3
        have h34 : (upd Ht pn (.lst (((List.range (i + 1)).map (SC.num Pn)).map V.int))) pn = some (.lst (((List.range (i + 1)).map (SC.num Pn)).map V.int)) := upd_same
        generalize upd Ht pn (.lst (((List.range (i + 1)).map (SC.num Pn)).map V.int)) = H4 at *
        have hup : ∀ u ∈ l.uses, u < i ∧ Pn u = true := fun u hu => by
          rw [← hPe]
          exact SC.isN_uses hO hi (by rw [hPe]; exact h) (by rw [hli]; exact hu)
        refine ⟨_, rfl, .inl ⟨rfl, _, SqL.of h14⟩, _, rfl, _, rfl, a, pn, l, (List.range (i + 1)).map (SC.num Pn), rfl, (S2.trans g4) _ _ hla, SqL.of h34, (fun u hu => by have := (hup u hu).1; simp; omega), fun H5 r s5 hr5 => ?_⟩
        have er : SC.rep l ((List.range (i + 1)).map (SC.num Pn)) = (SC.mvP Pn l).told := SC.rep_num fun u hu => ⟨(hup u hu).2, by rw [List.getElem?_map, List.getElem?_range (by have := (hup u hu).1; omega)]; rfl⟩
        rw [er] at hr5
        have hr5' : LnA H5 r (SC.mvP Pn l) := hr5
        refine ⟨pk, _, _, rfl, rfl, s5 _ _ h14, ?_, _, _, as' ++ [r], rfl, same_upd (g4.trans s5) fk, by rw [upd_same, map_snoc], ?_, ?_⟩
        · rw [List.length_map, hasl]
          have : SC.rn Pn i ≤ i := by unfold SC.rn SC.kp; exact Nat.le_trans (List.length_filter_le _ _) (by simp)
          exact Nat.lt_of_le_of_lt (show SC.rn Pn i ≤ 80 by omega) (by decide)
        · rw [SC.kl_succ, if_pos h, hli]
          exact ((h24.same s5).updL (s5 _ _ h14)).snoc (tup_upd hr5' (s5 _ _ h14))
        · rw [upd_ne nkn.symm]; exact s5 _ _ h34
      · have en : V.int (-1) = V.int (SC.num Pn i) := by unfold SC.num; rw [if_neg h]
        refine ⟨_, rfl, .inl ⟨rfl, _, SqL.of h3⟩, pn, _, _, rfl, rfl, h3, hnz, ?_⟩
        refine ⟨_, _, as', rfl, same_upd g1 fn, by rw [upd_ne nkn]; exact h1, ?_, ?_⟩
        · rw [SC.kl_succ, if_neg h]; exact h2.updL h3
        · rw [upd_same, en, nums]
    · rintro σ Hc ⟨x0, y0, as', rfl, g, h1, h2, h3⟩
      rw [List.length_map, hl.len] at h2 h3
      have S4 := S2.trans g
      refine ⟨_, rfl, _, rfl, q, CM, dx, _, _, rfl, S4 _ _ hq, TM.cl, TM.nW, mf_went _ _, pw, rfl, ⟨_, SqL.of (S4 _ _ hw')⟩, fun D2 hD2 => ?_⟩
      refine lc_mapL (xs := nats to) (fun j => V.int (SC.num Pn (to.getD j 0))) hD2 (SqL.of (S4 _ _ hw')) (by rw [nats_len]; exact Nat.le_trans htl (by decide)) (fun j z H5 k5 hz s5 kk => ?_) (fun H5 s5 hD5 => ?_)
      · obtain ⟨u, hu1, rfl⟩ := nats_of hz
        refine ⟨rfl, _, rfl, _, rfl, pn, _, _, _, rfl, rfl, SqL.of (s5 _ _ h3), atI_nat (j := u) (v := V.int (SC.num Pn u)) (by rw [List.getElem?_map, List.getElem?_map, List.getElem?_range (hto u (List.mem_of_getElem? hu1))]; rfl), ?_⟩
        have := kk H5 (Same.refl H5)
        rw [getD_of hu1] at this
        exact this
      have eD2 : (List.range (nats to).length).map (fun j => V.int (SC.num Pn (to.getD j 0))) = (to.map (SC.num Pn)).map V.int := by
        rw [List.map_map, nats_len]
        exact range_map_get fun j u e => by rw [getD_of e]; rfl
      rw [eD2] at hD5
      refine fun z dz nz ndz nez => ⟨z, dz, _, _, rfl, upd_same, fun H' g1 g2 => ⟨rfl, ?_⟩⟩
      have s' : Same H5 H' := Same.made nz ndz g2
      exact k H' z (S4.trans (s5.trans s')) ⟨dz, pk, D2, g1, ⟨as', s' _ _ (s5 _ _ h1), (h2.same s5).same s'⟩, s' _ _ hD5, S2.free fk⟩
end
end SD
set_option maxHeartbeats 1000000
namespace SD
open PySem PySem.Spec PyProof.Rows L2
open Vagraa (Frac frac zero one isZero weight)
open VagraLine (Line)
open Vagral (Mode)
section
variable {P : Program} {w : World} {K : PySem.W.Frag} {mg : Str → Option Value} {base : Heap}
/-! ### make -/
def spMake (C : Addr) : Sp := fun vs H Q _ => ∃ (p o : Addr) (m ni : Nat) (c : Cd) (outs : List Nat), vs = [.ref p, .ref o, .int m] ∧ m ≤ 15 ∧ CodeAt H p c ∧ SC.Ord ni c ∧ c.length ≤ 80 ∧ H o = some (.lst (nats outs)) ∧ outs.length ≤ 12 ∧ (∀ x ∈ outs, x < c.length) ∧
  ∀ (H' : Hp) (z : Addr), Same H H' → MadeN C H H' z (Vagral.small (SC.md m) c outs).code ((Vagral.small (SC.md m) c outs).to.map Vagral.optional) → Q (.ref z) H'
theorem scMake : FnScope ["lines", "outs", "mode", "made"] ["lines", "outs", "mode"] (defScope sMake) := ⟨rfl, rfl, rfl, by decide +kernel, rfl, by decide +kernel, by decide +kernel⟩
theorem ok_make {CM : Addr} (T : Glo K mg) (D : Dx K mg "make" sMake ["lines", "outs", "mode"]) (C : Fk P w K mg base 9 "lines_anew" ["lines", "mode"] (spAnew CM)) (C2 : Fk P w K mg base 4 "without_dead" ["made", "outs"] (spDead CM)) :
    Fk P w K mg base 10 "make" ["lines", "outs", "mode"] (spMake CM) := by
  refine D.ok scMake (fun vs H Q E h => ?_) (fun f cdv A outer s H vs Q E hr h => ?_)
  · obtain ⟨p, o, m, ni, c, outs, rfl, _⟩ := h
    rfl
  · obtain ⟨p, o, m, ni, c, outs, rfl, hm, hc, hO, hlen, ho, hol, hos, k⟩ := h
    refine ⟨_, pss_cons (ps_set (i := 3) scMake.nd rfl (Or.inl rfl) (pcall C hr (pa_cons (pv 0) (pa_cons (pv 2) pa_nil))))
      (pss_cons (ps_if (pt_truth (pe_op op_and (pv 2) (pgi T.dead)) (fun _ => rfl)) (pss_one (ps_ret (pcall C2 (hr.mono (by decide)) (pa_cons (pv 3) (pa_cons (pv 1) pa_nil))))) pss_nil)
      (pss_one (ps_ret (pv 3)))), ?_⟩
    have B : SC.Bt ni (SC.md m) (Vagral.built (SC.md m) c) c.length := by rw [← SC.made_all]; exact SC.made_ok hO _ (Nat.le_refl _)
    refine ⟨_, rfl, _, rfl, p, m, ni, c, rfl, hm, hc, hO, hlen, fun H1 q s1 hq => ?_⟩
    refine ⟨_, rfl, _, _, rfl, rfl, _, rfl, ite2 (fun h => ?_) (fun h => ?_)⟩
    · have hd : (SC.md m).dead = true := by rw [bit_dead hm]; exact h
      obtain ⟨e1, e2⟩ := SC.small_code_dead (outs := outs) B hd
      rw [e1, e2] at k
      refine ⟨_, rfl, _, rfl, q, o, _, _, outs, ni, rfl, hq.made, B.ord, by have := B.few; omega, by rw [B.len]; exact hlen, fun t ht => ?_, s1 _ _ ho, hol, by rw [B.len]; exact hos, fun H2 z s2 hz => k H2 z (s1.trans s2) (hz.back s1)⟩
      obtain ⟨i, hi⟩ := List.getElem?_of_mem ht
      exact B.to i t hi
    · have hd : ¬ (SC.md m).dead = true := by rw [bit_dead hm]; exact h
      obtain ⟨e1, e2⟩ := SC.small_code_live (outs := outs) (c := c) hd
      rw [e1, e2] at k
      exact ⟨_, rfl, k H1 q s1 hq⟩
/-! ### running.py -/
abbrev sRunC : Stmt := top 63
abbrev sRunI : Stmt := inClass sRunC 0
abbrev sPoint : Stmt := top 64
abbrev sLVal : Stmt := top 65
abbrev sFault : Stmt := top 66
abbrev sRun : Stmt := top 67
structure Glo2 (mg : Str → Option Value) : Prop where
  noF : GI mg "NO_FAULT" 0
  div0 : GI mg "DIVISION_BY_ZERO" 1
  heavy : GI mg "TOO_HEAVY" 2
structure TRun (K : PySem.W.Frag) (mg : Str → Option Value) (C fI : Addr) (fdI : FuncData) : Prop where
  cl : Cls K C
  nW : NoAttr K C "worked_out"
  nF : NoAttr K C "fault"
  mgC : mg "Run" = some (.ref C)
  mkc : Mk K C fI
  F : Fun K "__init__" "Run.__init__" sRunI fI fdI
  b : Binds K fdI ["self", "worked_out", "fault"] []
def rf (u v : V) : List (Str × V) := putF "fault" v (putF "worked_out" u [])
theorem rf_work (u v : V) : (rf u v).lookup ("worked_out" : Str) = some u := by unfold rf; rw [lookup_putF, if_neg (by decide +kernel), lookup_putF, if_pos rfl]
theorem rf_fault (u v : V) : (rf u v).lookup ("fault" : Str) = some v := by unfold rf; rw [lookup_putF, if_pos rfl]
/-- a Run stands at q -/
def RunAt (C : Addr) (H : Hp) (q : Addr) (vs : List Frac) (k : Int) : Prop := ∃ dx pw as, H q = some (.ins C dx (rf (.ref pw) (.int k))) ∧ H pw = some (.lst (as.map V.ref)) ∧ Frs H as vs
def spRI (C : Addr) : Sp := fun vs H Q _ => ∃ (x dx : Addr) (u v : V), vs = [.ref x, u, v] ∧ H x = some (.ins C dx []) ∧ ∀ H' : Hp, H' x = some (.ins C dx (rf u v)) → (∀ b o, H b = some o → b ≠ x → H' b = some o) → Q .non H'
theorem scRI : FnScope ["self", "worked_out", "fault"] ["self", "worked_out", "fault"] (defScope sRunI) := ⟨rfl, rfl, rfl, by decide +kernel, rfl, by decide +kernel, by decide +kernel⟩
theorem ok_RI {C fI : Addr} {fdI : FuncData} (T : TRun K mg C fI fdI) : FnOk P w K mg base CX0 1 fI fdI ["self", "worked_out", "fault"] (spRI C) := by
  refine T.F.ok scRI (fun vs H Q E h => ?_) (fun cdv A outer s H vs Q E hr h => ?_)
  · obtain ⟨x, dx, u, v, rfl, _⟩ := h
    rfl
  · obtain ⟨x, dx, u, v, rfl, hx, k⟩ := h
    refine ⟨_, pss_cons (ps_fld (pv 0) (pv 1) rfl) (pss_one (ps_fld (pv 0) (pv 2) rfl)), ?_⟩
    refine ⟨_, rfl, _, rfl, x, C, dx, [], rfl, hx, T.cl, T.nW, (by show 0 < 1000; decide), ?_⟩
    refine ⟨_, rfl, _, rfl, x, C, dx, _, rfl, upd_same, T.cl, T.nF, (by show 1 < 1000; decide), ?_⟩
    exact k _ upd_same fun b o e hb => by rw [upd_ne hb, upd_ne hb]; exact e
/-! ### read_point -/
def RetFs (H : Hp) (o : Option (List Frac)) (Q : VK) : Prop := match o with
  | none => RetV H .non Q
  | some fs => ∀ (H' : Hp) (p : Addr) (as : List Addr), Same H H' → H' p = some (.lst (as.map V.ref)) → Frs H' as fs → Q (.ref p) H'
def spPoint (K : PySem.W.Frag) : Sp := fun vs H Q _ => ∃ (p : Addr) (ns : List Int) (n : Nat), vs = [.ref p, .int n] ∧ SqL K H p (ns.map V.int) ∧ (∀ z ∈ ns, z.natAbs ≤ 10 ^ 18) ∧ ns.length ≤ 400 ∧ RetFs H (SC.rp n ns) Q
theorem scPoint : FnScope ["row", "inputs", "point", "at"] ["row", "inputs"] (defScope sPoint) := ⟨rfl, rfl, rfl, by decide +kernel, rfl, by decide +kernel, by decide +kernel⟩
theorem rg2 {n : Nat} (h : n ≤ 400) : RgC 0 ((2 * n : Nat) : Int) 2 n := by
  have e : Builtin.Range.rangeSize 0 ((2 * n : Nat) : Int) 2 = (n : Int) := by
    unfold Builtin.Range.rangeSize
    rw [if_pos (by decide)]
    split <;> omega
  refine ⟨by decide, by decide, ?_, e⟩
  have fl : ∀ i : Int, -1000 ≤ i → i ≤ 1000 → Builtin.Range.rangeFitsLong i = true := fun i h1 h2 => by
    unfold Builtin.Range.rangeFitsLong
    rw [Bool.and_eq_true]
    exact ⟨decide_eq_true (by omega), decide_eq_true (by omega)⟩
  unfold Builtin.Range.small
  rw [e, fl 0 (by decide) (by decide), fl _ (by omega) (by omega), fl 2 (by decide) (by decide), fl n (by omega) (by omega), if_pos (by decide), fl _ (by omega) (by omega), Bool.or_true]
  rfl
theorem Frs.updL {H : Hp} {as : List Addr} {fs : List Frac} {L : Addr} {ys : List V} {o : HO} (h : Frs H as fs) (hl : H L = some (.lst ys)) : Frs (upd H L o) as fs := paired_imp (fun a l e => tup_upd e hl) h
theorem Frs.snoc {H : Hp} {as : List Addr} {fs : List Frac} {a : Addr} {f : Frac} (h : Frs H as fs) (r : FrA H a f) : Frs H (as ++ [a]) (fs ++ [f]) := paired_snoc r h
theorem Frs.len {H : Hp} {as : List Addr} {fs : List Frac} (h : Frs H as fs) : as.length = fs.length := Paired.length h
theorem ok_point (T : Glo K mg) (D : Dx K mg "read_point" sPoint ["row", "inputs"]) (C : Fk P w K mg base 2 "lowest" ["top", "bottom"] spLow) : Fk P w K mg base 3 "read_point" ["row", "inputs"] (spPoint K) := by
  refine D.ok scPoint (fun vs H Q E h => ?_) (fun f cdv A outer s H vs Q E hr h => ?_)
  · obtain ⟨p, ns, n, rfl, _⟩ := h
    rfl
  · obtain ⟨p, ns, n, rfl, hp, hB, hlen, k⟩ := h
    refine ⟨_, pss_cons (ps_if (pt_cmpR op_ne (pe_callB call_len_seq rfl T.nLen PySem.boot_len (pa_cons (pv 0) pa_nil)) (pe_op op_mul pe_int (pv 1)) (nomark _)) (pss_one (ps_ret pe_non)) pss_nil)
      (pss_cons (ps_set (i := 2) scPoint.nd rfl (Or.inl rfl) (pe_lst pa_nil))
      (pss_cons (ps_for PassesOwn.never rfl (pi_range3 rfl T.nRange (pa_cons pe_int (pa_cons (pe_callB call_len_seq rfl T.nLen PySem.boot_len (pa_cons (pv 0) pa_nil)) (pa_cons pe_int pa_nil)))) (pg_name (i := 3) scPoint.nd rfl (Or.inl rfl))
        (pss_cons (ps_if (pt_cmpR op_lt (pe_ix ix_list (pv 0) (pe_op op_add (pv 3) pe_int) (fun _ _ => rfl)) pe_int (nomark _)) (pss_one (ps_ret pe_non)) pss_nil)
        (pss_one (ps_expr (pe_bm PySem.F.plainAttrs_list PySem.F.slot_list_append PySem.F.type_list_append mt_append (pv 2) (pa_cons (pcall C hr (pa_cons (pe_ix ix_list (pv 0) (pv 3) (fun _ _ => rfl)) (pa_cons (pe_ix ix_list (pv 0) (pe_op op_add (pv 3) pe_int) (fun _ _ => rfl)) pa_nil))) pa_nil))))))
      (pss_one (ps_ret (pv 2))))), ?_⟩
    have hml : (ns.map V.int).length = ns.length := List.length_map _
    refine ⟨_, rfl, p, _, rfl, .inl hp, _, rfl, _, _, rfl, rfl, .inl ⟨by decide, by decide⟩, rfl, _, rfl, ite2 (fun h => ?_) (fun h => ?_)⟩
    · rw [dec_int] at h
      have hne : ns.length ≠ 2 * n := fun q => by
        have e : decide (((ns.map V.int).length : Int) = 2 * (n : Int)) = true := decide_eq_true (by rw [hml, q]; omega)
        rw [e] at h
        cases h
      rw [SC.rp_bad hne] at k
      exact k H (Same.refl H)
    have heq : ns.length = 2 * n := by
      rw [dec_int] at h
      have : decide (((ns.map V.int).length : Int) = 2 * (n : Int)) = true := by simpa using h
      have := of_decide_eq_true this
      rw [hml] at this
      omega
    rw [SC.rp_good heq] at k
    refine ⟨by show 0 ≤ sizeLine; decide, fun R hR => ?_⟩
    have hget : ∀ {j : Nat} (hj : j < ns.length), (ns.map V.int)[j]? = some (V.int ns[j]) := fun {j} hj => by rw [List.getElem?_map, List.getElem?_eq_getElem hj]; rfl
    refine ⟨_, rfl, p, _, rfl, .inl ((same_new hR).seq hp), 0, ((2 * n : Nat) : Int), 2, n, by rw [hml, heq], rg2 (by omega), for_rangeC (fun i σ Hc => ∃ (x : Option V) (as : List Addr) (fs : List Frac), σ = [some (.ref p), some (.int n), some (.ref R), x] ∧ Gw H Hc R (as.map V.ref) ∧ Frs Hc as fs ∧ fs.length = i ∧ VagraLine.fracsOf ns = (VagraLine.fracsOf (ns.drop (2 * i))).map (fs ++ ·))
      ⟨none, [], [], rfl, Gw.new hR, .nil, rfl, by rw [Nat.mul_zero, List.drop_zero]; cases VagraLine.fracsOf ns <;> simp⟩ ?_ ?_⟩
    · rintro i σ Hc hi ⟨x, as, fs, rfl, g, hf, hfl, e0⟩
      have h1 : 2 * i + 1 < ns.length := by omega
      have ei : (0 : Int) + (i : Nat) * 2 = ((2 * i : Nat) : Int) := by omega
      have ei1 : (0 : Int) + (i : Nat) * 2 + 1 = ((2 * i + 1 : Nat) : Int) := by omega
      rw [SC.fracs_step h1] at e0
      refine ⟨_, rfl, _, rfl, _, _, rfl, rfl, p, _, _, _, rfl, rfl, g.s.seq hp, at_of ei1 (hget h1), _, _, rfl, rfl, _, rfl, ite2 (fun h => ?_) (fun h => ?_)⟩
      · rw [if_pos (of_decide_eq_true h)] at e0
        rw [e0] at k
        exact k Hc g.s
      · have hd : ¬ ns[2 * i + 1] < 1 := fun q => h (decide_eq_true q)
        rw [if_neg hd] at e0
        have hb := hB ns[2 * i + 1] (List.getElem_mem h1)
        refine ⟨_, rfl, .inl ⟨rfl, _, SqL.of g.l⟩, _, rfl, _, rfl, p, _, _, _, rfl, rfl, g.s.seq hp, at_of ei (hget (show 2 * i < ns.length by omega)), _, rfl, _, rfl, _, _, rfl, rfl, p, _, _, _, rfl, rfl, g.s.seq hp, at_of ei1 (hget h1), _, _, rfl, by omega, Nat.lt_of_le_of_lt hb (Nat.lt_of_lt_of_le (show 10 ^ 18 < 2 ^ 60 by decide) (Nat.pow_le_pow_right (by decide) (by decide))), fun H2 q s2 hq => ?_⟩
        rw [low_pos hd] at hq
        have g2 := g.same s2
        refine ⟨R, _, _, rfl, rfl, g2.l, ?_, _, as ++ [q], fs ++ [frac ns[2 * i] ns[2 * i + 1].toNat], rfl, ?_, ?_, ?_, ?_⟩
        · rw [List.length_map, hf.len, hfl]; exact Nat.lt_of_le_of_lt (show i ≤ 400 by omega) (by decide)
        · rw [← map_snoc]; exact g2.put _
        · exact ((hf.same s2).updL g2.l).snoc (tup_upd hq g2.l)
        · rw [List.length_append, hfl]; rfl
        · rw [e0, Option.map_map]
          cases VagraLine.fracsOf (ns.drop (2 * (i + 1))) <;> simp
    · rintro σ Hc ⟨x, as, fs, rfl, g, hf, hfl, e0⟩
      rw [List.drop_eq_nil_of_le (by omega)] at e0
      have e1 : VagraLine.fracsOf ns = some fs := by rw [e0]; simp [VagraLine.fracsOf]
      rw [e1] at k
      exact ⟨_, rfl, k Hc R as g.s g.l hf⟩
end
end SD
set_option maxHeartbeats 1000000
namespace SD
open PySem PySem.Spec PyProof.Rows L2
open Vagraa (Frac frac zero one isZero weight)
open VagraLine (Line)
open Vagral (Mode)
section
variable {P : Program} {w : World} {K : PySem.W.Frag} {mg : Str → Option Value} {base : Heap}
/-! ### line_value -/
def AftF (H : Hp) (v : V) (o : Option Frac) : Prop := match o with
  | none => v = .non
  | some f => ∃ a, v = .ref a ∧ FrA H a f
theorem retO_frac {H : Hp} {o : Option Frac} {Q : VK} (h : ∀ (H' : Hp) (v : V), Same H H' → AftF H' v o → Q v H') : RetO H (o.map frv) Q := by
  cases o with
  | none => exact fun H' s => h H' .non s rfl
  | some y => exact fun H' q s hq => h H' (.ref q) s ⟨q, rfl, hq⟩
def spLVal : Sp := fun vs H Q _ => ∃ (a pb pp : Addr) (l : Line) (as bs : List Addr) (ws ps : List Frac), vs = [.ref a, .ref pb, .ref pp] ∧ LnA H a l ∧ H pb = some (.lst (as.map V.ref)) ∧ Frs H as ws ∧ H pp = some (.lst (bs.map V.ref)) ∧ Frs H bs ps ∧ (∀ f ∈ ws, SC.Fit f) ∧ SC.Low ws.length l ∧ SC.FitL ps.length l ∧ RetO H ((l.value ps ws).map frv) Q
theorem scLVal : FnScope ["line", "before", "point", "used"] ["line", "before", "point"] (defScope sLVal) := ⟨rfl, rfl, rfl, by decide +kernel, rfl, by decide +kernel, by decide +kernel⟩
theorem frs_get {H : Hp} {as : List Addr} {fs : List Frac} {i : Nat} (h : Frs H as fs) (hi : i < fs.length) : (as.map V.ref)[i]? = some (V.ref (as.getD i 0)) ∧ FrA H (as.getD i 0) (VagraLine.at_ fs i) := by
  obtain ⟨a, h1, h2⟩ := paired_get h (List.getElem?_eq_getElem hi)
  refine ⟨refs_getD (by rw [h.len]; exact hi), ?_⟩
  unfold VagraLine.at_
  rw [List.getD_eq_getElem?_getD, h1, List.getD_eq_getElem?_getD, List.getElem?_eq_getElem hi]
  exact h2
theorem frs_uses {H : Hp} {as : List Addr} {fs : List Frac} (h : Frs H as fs) : ∀ us : List Nat, (∀ u ∈ us, u < fs.length) → Frs H (us.map fun u => as.getD u 0) (us.map (VagraLine.at_ fs))
  | [], _ => .nil
  | u :: us, hu => .cons (frs_get h (hu u (by simp))).2 (frs_uses h us fun v hv => hu v (by simp [hv]))
theorem ok_lval (T : Glo K mg) (D : Dx K mg "line_value" sLVal ["line", "before", "point"]) (C2 : Fk P w K mg base 2 "used_lines" ["line"] spUsed) (C3 : Fk P w K mg base 5 "operation_value" ["kind", "values"] (spOpV K)) :
    Fk P w K mg base 6 "line_value" ["line", "before", "point"] spLVal := by
  refine D.ok scLVal (fun vs H Q E h => ?_) (fun f cdv A outer s H vs Q E hr h => ?_)
  · obtain ⟨a, pb, pp, l, as, bs, ws, ps, rfl, _⟩ := h
    rfl
  · obtain ⟨a, pb, pp, l, as, bs, ws, ps, rfl, ha, hb, hw, hp, hps, hfw, hlow, hfl, k⟩ := h
    refine ⟨_, pss_cons (ps_if (pt_cmpR op_eq (pe_ix ix_tup (pv 0) pe_int (fun _ _ => rfl)) (pgi T.input) (nomark _)) (pss_one (ps_ret (pe_ix ix_list (pv 2) (pe_ix ix_tup (pv 0) pe_int (fun _ _ => rfl)) (fun _ _ => rfl)))) pss_nil)
      (pss_cons (ps_if (pt_cmpR op_eq (pe_ix ix_tup (pv 0) pe_int (fun _ _ => rfl)) (pgi T.const) (nomark _)) (pss_one (ps_ret (pe_slice sl_tup (pv 0) (po_some pe_int) po_none))) pss_nil)
      (pss_one (ps_ret (pcall C3 hr (pa_cons (pe_ix ix_tup (pv 0) pe_int (fun _ _ => rfl)) (pa_cons (pe_lc rfl scLVal.nd (pi_tup (pcall C2 (hr.mono (by decide)) (pa_cons (pv 0) pa_nil))) (blkOk_by (own := [("used", 3)]) rfl)
          (fun _ _ _ _ _ => pg_name (i := 3) scLVal.nd rfl (Or.inl rfl)) (fun _ _ _ _ _ => pts_nil) (fun _ _ _ _ _ => pe_ix (r := rIxL K) ix_list (pv 1) (pv 3) (fun _ _ => rfl))) pa_nil)))))), ?_⟩
    obtain ⟨r, er⟩ := lv_kd l
    have ha' : H a = some (.tup (.int (SC.kd l) :: r)) := by rw [← er]; exact ha
    refine ⟨_, rfl, a, _, _, _, rfl, rfl, SqT.of ha', at0, rfl, _, rfl, ite2 (fun h => ?_) (fun h1 => ?_)⟩
    · have e0 := int_eq h
      cases l with
      | input i =>
        have hi : i < ps.length := hfl
        obtain ⟨g1, g2⟩ := frs_get hps hi
        exact ⟨_, rfl, _, rfl, a, _, _, _, rfl, rfl, SqT.of ha, at1, pp, _, _, _, rfl, rfl, SqL.of hp, atI_nat (j := i) g1, k H _ (Same.refl H) g2⟩
      | _ => exact absurd e0 (by simp [SC.kd])
    refine ⟨_, rfl, a, _, _, _, rfl, rfl, SqT.of ha', at0, rfl, _, rfl, ite2 (fun h => ?_) (fun h2 => ?_)⟩
    · have e0 := int_eq h
      cases l with
      | num x => exact ⟨_, rfl, _, rfl, a, _, rfl, SqT.of ha, cutN.2, fun t ht => k _ t (same_new ht) (by rw [upd_same]; rfl)⟩
      | _ => exact absurd e0 (by simp [SC.kd])
    have ho : l.isOp = true := by
      rw [dec_int] at h1 h2
      cases l with
      | input i => exact absurd rfl h1
      | num i => exact absurd rfl h2
      | _ => rfl
    rw [SC.value_op ho] at k
    refine ⟨_, rfl, a, _, _, _, rfl, rfl, SqT.of ha', at0, _, rfl, a, l, rfl, ha, fun H2 q s2 hq => ⟨q, rfl, ⟨_, SqT.of hq⟩, fun D hD => ?_⟩⟩
    refine lc_mapT (xs := nats l.uses) (fun j => V.ref (as.getD (l.uses.getD j 0) 0)) hD hq (by rw [nats_len]; exact Nat.le_trans (uses_len l) (by decide)) (fun j z H3 k3 hz s3 kk => ?_) (fun H3 s3 hD3 => ?_)
    · obtain ⟨u, hu1, rfl⟩ := nats_of hz
      refine ⟨rfl, _, rfl, _, rfl, pb, _, _, _, rfl, rfl, SqL.of ((s2.trans s3) _ _ hb), atI_nat (j := u) (frs_get hw (hlow u (List.mem_of_getElem? hu1))).1, ?_⟩
      have := kk H3 (Same.refl H3)
      rw [getD_of hu1] at this
      exact this
    have eD : (List.range (nats l.uses).length).map (fun j => V.ref (as.getD (l.uses.getD j 0) 0)) = (l.uses.map fun u => as.getD u 0).map V.ref := by
      rw [List.map_map, nats_len]
      exact range_map_get fun j u e => by rw [getD_of e]; rfl
    rw [eD] at hD3
    have S3 := s2.trans s3
    refine ⟨SC.kd l, D, _, _, rfl, SqL.of hD3, (frs_uses hw l.uses hlow).same S3, fun y hy => ?_, by rw [List.length_map]; exact SC.args_op ho, ?_⟩
    · obtain ⟨u, hu, rfl⟩ := List.mem_map.mp hy
      unfold VagraLine.at_
      rw [List.getD_eq_getElem?_getD, List.getElem?_eq_getElem (hlow u hu)]
      exact hfw _ (List.getElem_mem _)
    · refine retO_frac fun H' v s' hv => ?_
      generalize SC.opv (SC.kd l) (l.uses.map (VagraLine.at_ ws)) = o at k hv
      cases o with
      | none => have hv' : v = .non := hv; subst hv'; exact k H' (S3.trans s')
      | some y => obtain ⟨b, rfl, hb'⟩ := hv; exact k H' b (S3.trans s') hb'
/-! ### fault_of -/
def flt (o : Option Frac) : Int := match o with
  | none => 1
  | some f => if 200 < weight f then 2 else 0
def spFault : Sp := fun vs H Q _ => ∃ (v : V) (o : Option Frac), vs = [v] ∧ AftF H v o ∧ Q (.int (flt o)) H
theorem scFault : FnScope ["value"] ["value"] (defScope sFault) := ⟨rfl, rfl, rfl, by decide +kernel, rfl, by decide +kernel, by decide +kernel⟩
theorem ok_fault (T : Glo K mg) (T2 : Glo2 mg) (D : Dx K mg "fault_of" sFault ["value"]) (C : Fk P w K mg base 1 "weight" ["value"] spWgt) : Fk P w K mg base 2 "fault_of" ["value"] spFault := by
  refine D.ok scFault (fun vs H Q E h => ?_) (fun f cdv A outer s H vs Q E hr h => ?_)
  · obtain ⟨v, o, rfl, _⟩ := h
    rfl
  · obtain ⟨v, o, rfl, hv, k⟩ := h
    refine ⟨_, pss_cons (ps_if (pt_cmpR op_isN (pv 0) pe_non (nomark _)) (pss_one (ps_ret (pgi T2.div0))) pss_nil)
      (pss_cons (ps_if (pt_cmpR op_gt (pcall C hr (pa_cons (pv 0) pa_nil)) (pgi T.mostW) (nomark _)) (pss_one (ps_ret (pgi T2.heavy))) pss_nil)
      (pss_one (ps_ret (pgi T2.noF)))), ?_⟩
    cases o with
    | none =>
      have hv' : v = .non := hv
      subst hv'
      exact ⟨_, rfl, rfl, _, rfl, iteT k⟩
    | some y =>
      obtain ⟨a, rfl, ha⟩ := hv
      refine ⟨_, rfl, rfl, _, rfl, ite2 (fun h => absurd (of_decide_eq_true h) (by intro z; cases z)) (fun _ => ⟨_, rfl, a, y, rfl, ha, _, _, rfl, rfl, _, rfl, ite2 (fun h => ?_) (fun h => ?_)⟩)⟩
      · have h' : ((weight y : Nat) : Int) > 200 := of_decide_eq_true h
        have e : flt (some y) = 2 := if_pos (by omega)
        rw [e] at k
        exact k
      · have h' : ¬ ((weight y : Nat) : Int) > 200 := fun q => h (decide_eq_true q)
        have e : flt (some y) = 0 := if_neg (by omega)
        rw [e] at k
        exact k
/-! ### run_lines -/
def Res (n : Nat) (r : Except VagraLine.Fault (List Frac)) (ws : List Frac) (k : Int) : Prop := match r with
  | .ok vs => ws = vs ∧ k = 0 ∧ vs.length = n
  | .error e => ws.length = e.line ∧ k = (e.kind : Int) ∧ k ≠ 0
def spRun (C : Addr) : Sp := fun vs H Q _ => ∃ (p pp : Addr) (c : Cd) (bs : List Addr) (ps : List Frac), vs = [.ref p, .ref pp] ∧ CodeAt H p c ∧ SC.Ord ps.length c ∧ c.length ≤ 80 ∧ H pp = some (.lst (bs.map V.ref)) ∧ Frs H bs ps ∧ (∀ f ∈ ps, SC.Fit f) ∧
  ∀ (H' : Hp) (z : Addr) (ws : List Frac) (k : Int), Same H H' → RunAt C H' z ws k → Res c.length (VagraLine.run (some Vagral.HEAVY) ps c) ws k → Q (.ref z) H'
theorem scRun : FnScope ["lines", "point", "worked_out", "line", "value", "fault"] ["lines", "point"] (defScope sRun) := ⟨rfl, rfl, rfl, by decide +kernel, rfl, by decide +kernel, by decide +kernel⟩
theorem ok_run {CR fI : Addr} {fdI : FuncData} (T : Glo K mg) (T2 : Glo2 mg) (TR : TRun K mg CR fI fdI) (D : Dx K mg "run_lines" sRun ["lines", "point"]) (C : Fk P w K mg base 6 "line_value" ["line", "before", "point"] spLVal) (C2 : Fk P w K mg base 2 "fault_of" ["value"] spFault) :
    Fk P w K mg base 7 "run_lines" ["lines", "point"] (spRun CR) := by
  refine D.ok scRun (fun vs H Q E h => ?_) (fun f cdv A outer s H vs Q E hr h => ?_)
  · obtain ⟨p, pp, c, bs, ps, rfl, _⟩ := h
    rfl
  · obtain ⟨p, pp, c, bs, ps, rfl, ⟨as, hp, hl⟩, hO, hlen, hpp, hps, hfp, k⟩ := h
    refine ⟨_, pss_cons (ps_set (i := 2) scRun.nd rfl (Or.inl rfl) (pe_lst pa_nil))
      (pss_cons (ps_for PassesOwn.never rfl (pi_list (pv 0)) (pg_name (i := 3) scRun.nd rfl (Or.inl rfl))
        (pss_cons (ps_set (i := 4) scRun.nd rfl (Or.inl rfl) (pcall C hr (pa_cons (pv 3) (pa_cons (pv 2) (pa_cons (pv 1) pa_nil)))))
        (pss_cons (ps_set (i := 5) scRun.nd rfl (Or.inl rfl) (pcall C2 (hr.mono (by decide)) (pa_cons (pv 4) pa_nil)))
        (pss_cons (ps_if (pt_cmpR op_ne (pv 5) (pgi T2.noF) (nomark _)) (pss_one (ps_ret (pe_make TR.mkc (ok_RI TR) (hr.mono (by decide)) rfl TR.mgC TR.b .nil pass0 (pa_cons (pv 2) (pa_cons (pv 5) pa_nil))))) pss_nil)
        (pss_one (ps_expr (pe_bm PySem.F.plainAttrs_list PySem.F.slot_list_append PySem.F.type_list_append mt_append (pv 2) (pa_cons (pv 4) pa_nil))))))))
      (pss_one (ps_ret (pe_make TR.mkc (ok_RI TR) (hr.mono (by decide)) rfl TR.mgC TR.b .nil pass0 (pa_cons (pv 2) (pa_cons (pgi T2.noF) pa_nil)))))), ?_⟩
    refine ⟨by show 0 ≤ sizeLine; decide, fun W hW => ?_⟩
    refine ⟨_, rfl, p, rfl, ⟨_, SqL.of (same_new hW _ _ hp)⟩, for_list (xs := as.map V.ref) (fun i σ Hc => ∃ (x y z : Option V) (es : List Addr) (ws : List Frac), σ = [some (.ref p), some (.ref pp), some (.ref W), x, y, z] ∧ Gw H Hc W (es.map V.ref) ∧ Frs Hc es ws ∧ ws.length = i ∧ (∀ f ∈ ws, SC.Fit f) ∧ VagraLine.run (some Vagral.HEAVY) ps c = VagraLine.runFrom (some Vagral.HEAVY) ps ws (c.drop i))
      ⟨none, none, none, [], [], rfl, Gw.new hW, .nil, rfl, by simp, rfl⟩ (fun i σ Hc _ ⟨x, y, z, es, ws, _, g, _⟩ => SqL.of (g.s _ _ hp)) ?_ ?_⟩
    · rintro i v σ Hc hv ⟨x, y, z, es, ws, rfl, g, hf, hfl, hfit, e0⟩
      obtain ⟨a, l, rfl, hci, hla⟩ := ref_get hl hv
      have hi : i < c.length := (List.getElem?_eq_some_iff.mp hci).1
      have hlw : SC.Low ws.length l := by rw [hfl]; exact hO.low i l hci
      have hft := hO.fit i l hci
      rw [SC.run_step hci] at e0
      refine ⟨_, rfl, _, rfl, _, rfl, a, W, pp, l, es, bs, ws, ps, rfl, g.s _ _ hla, g.l, hf, g.s _ _ hpp, hps.same g.s, hfit, hlw, hft, retO_frac fun H2 v s2 hv2 => ?_⟩
      have g2 := g.same s2
      have hf2 := hf.same s2
      refine ⟨_, rfl, v, _, rfl, hv2, ?_⟩
      refine ⟨_, rfl, rfl, _, rfl, ?_⟩
      cases ev : l.value ps ws with
      | none =>
        rw [ev] at e0
        refine iteT ⟨_, rfl, _, rfl, fun z dz nz ndz nez => ⟨z, dz, _, _, rfl, upd_same, fun H' g1' g2' => ⟨rfl, ?_⟩⟩⟩
        have s' : Same H2 H' := Same.made nz ndz g2'
        refine k H' z ws 1 (g2.s.trans s') ⟨dz, W, es, g1', s' _ _ g2.l, hf2.same s'⟩ ?_
        rw [e0]
        exact ⟨rfl, rfl, by decide⟩
      | some u =>
        rw [ev] at e0 hv2
        obtain ⟨b, rfl, hb⟩ := hv2
        by_cases hwt : 200 < weight u
        · have ef : flt (some u) = 2 := if_pos hwt
          dsimp only at e0
          rw [if_pos hwt] at e0
          rw [ef]
          refine iteT ⟨_, rfl, _, rfl, fun z dz nz ndz nez => ⟨z, dz, _, _, rfl, upd_same, fun H' g1' g2' => ⟨rfl, ?_⟩⟩⟩
          have s' : Same H2 H' := Same.made nz ndz g2'
          refine k H' z ws 2 (g2.s.trans s') ⟨dz, W, es, g1', s' _ _ g2.l, hf2.same s'⟩ ?_
          rw [e0]
          exact ⟨rfl, rfl, by decide⟩
        · have ef : flt (some u) = 0 := if_neg hwt
          dsimp only at e0
          rw [if_neg hwt] at e0
          rw [ef]
          refine iteF ⟨_, rfl, .inl ⟨rfl, _, SqL.of g2.l⟩, _, rfl, W, _, _, rfl, rfl, g2.l, ?_, _, _, _, es ++ [b], ws ++ [u], rfl, ?_, (hf2.updL g2.l).snoc (tup_upd hb g2.l), by rw [List.length_append, hfl]; rfl, fun f hf' => ?_, e0⟩
          · rw [List.length_map, hf2.len, hfl]; exact Nat.lt_of_le_of_lt (show i ≤ 80 by omega) (by decide)
          · rw [← map_snoc]; exact g2.put _
          · rcases List.mem_append.mp hf' with q | q
            · exact hfit f q
            · rw [List.mem_singleton.mp q]
              exact ⟨SC.value_den hfp hfit hlw hft ev, by omega⟩
    · rintro σ Hc ⟨x, y, z, es, ws, rfl, g, hf, hfl, hfit, e0⟩
      rw [List.length_map, hl.len] at hfl e0
      rw [List.drop_length] at e0
      refine ⟨_, rfl, fun z dz nz ndz nez => ⟨z, dz, _, _, rfl, upd_same, fun H' g1' g2' => ⟨rfl, ?_⟩⟩⟩
      have s' : Same Hc H' := Same.made nz ndz g2'
      refine k H' z ws 0 (g.s.trans s') ⟨dz, W, es, g1', s' _ _ g.l, hf.same s'⟩ ?_
      rw [e0]
      exact ⟨rfl, rfl, hfl⟩
end
end SD
set_option maxHeartbeats 1000000
namespace SD
open PySem PySem.Spec PyProof.Rows L2
open Vagraa (Frac frac zero one isZero weight)
open VagraLine (Line)
open Vagral (Mode)
section
variable {P : Program} {w : World} {K : PySem.W.Frag} {mg : Str → Option Value} {base : Heap}
/-! ### holder.py -/
abbrev sIsMode : Stmt := top 74
abbrev sCodeRow : Stmt := top 75
abbrev sHolder : Stmt := top 76
abbrev sHInit : Stmt := inClass sHolder 0
abbrev sIsLine : Stmt := inClass sHolder 1
abbrev sNewOuts : Stmt := inClass sHolder 2
abbrev sHoldCode : Stmt := inClass sHolder 3
abbrev sHoldOuts : Stmt := inClass sHolder 4
abbrev sTSmall : Stmt := inClass sHolder 5
abbrev sTMap : Stmt := inClass sHolder 6
abbrev sTCounts : Stmt := inClass sHolder 7
abbrev sTAlike : Stmt := inClass sHolder 8
abbrev sHoldMade : Stmt := inClass sHolder 9
abbrev sTLines : Stmt := inClass sHolder 10
abbrev sTRun : Stmt := inClass sHolder 11
structure Glo3 (mg : Str → Option Value) : Prop where
  wN : GI mg "WRONG_NUMBER" (-1)
  wL : GI mg "WRONG_LIST" (-2)
  wU : GI mg "WRONG_USE" (-3)
  tM : GI mg "TOO_MANY_LINES" (-7)
  mO : GI mg "MOST_OUTS" 12
  nList : mg "list" = none
/-- a method with what it promises -/
structure Fm (P : Program) (w : World) (K : PySem.W.Frag) (mg : Str → Option Value) (base : Heap) (k : Nat) (C : Addr) (m : Str) (ps : List Str) (sp : Sp) : Prop where
  ex : ∃ (f : Addr) (fd : FuncData), FnOk P w K mg base CX0 k f fd ps sp ∧ Binds K fd ps [] ∧ Meth K C m f
theorem pmeth {X : Cx} {pl : Sem Bool} {k : Nat} {C : Addr} {m : Str} {ps : List Str} {sp : Sp} {o e : Expr} {es : List Expr} {ta : TE} {t : TA} {apos pos : Pos} (G : Fm X.prog X.w X.K X.mg X.base k C m ps sp) (c : Cls X.K C) (hr : Room k X.A) (he : PE X o ta) (ha : PA X (e :: es) t)
    (hst : starEach (e :: es) X.env = (false, eval e X.env) :: starEach es X.env := by rfl) (hpl : (backTo pos (starEach es X.env)).any (·.1) = false := by rfl)
    (ht : eval (.Call (.Attribute o m apos) (e :: es) [] pos) X.env = (do
      let ov ← eval o X.env
      standAt apos.atName
      let (f, first) ← holding [ov] (getMethod ov m pl)
      callWith pos f first (backTo pos (starEach (e :: es) X.env)) (backToKw pos (keywordEach [] X.env))) := by rfl) :
    PE X (.Call (.Attribute o m apos) (e :: es) [] pos) (tMeth C m sp [] E0 ta t) := by
  obtain ⟨f, fd, F, b, mm⟩ := G.ex
  exact pe_meth he c mm F hr b .nil pass0 ha hst hpl ht
theorem pmeth0 {X : Cx} {pl : Sem Bool} {k : Nat} {C : Addr} {m : Str} {ps : List Str} {sp : Sp} {o : Expr} {ta : TE} {apos pos : Pos} (G : Fm X.prog X.w X.K X.mg X.base k C m ps sp) (c : Cls X.K C) (hr : Room k X.A) (he : PE X o ta)
    (ht : eval (.Call (.Attribute o m apos) [] [] pos) X.env = (do
      let ov ← eval o X.env
      standAt apos.atName
      let (f, first) ← holding [ov] (getMethod ov m pl)
      callWith pos f first (backTo pos (starEach [] X.env)) (backToKw pos (keywordEach [] X.env))) := by rfl) :
    PE X (.Call (.Attribute o m apos) [] [] pos) (tMeth C m sp [] E0 ta tNil) := by
  obtain ⟨f, fd, F, b, mm⟩ := G.ex
  exact pe_meth0 he c mm F hr b .nil pass0 ht
/-- a method of the text, to be shown -/
structure Mt (K : PySem.W.Frag) (C : Addr) (m q : Str) (st : Stmt) (ps : List Str) (f : Addr) (fd : FuncData) : Prop where
  fn : Fun K m q st f fd
  b : Binds K fd ps []
  me : Meth K C m f
def Mx (K : PySem.W.Frag) (C : Addr) (m q : Str) (st : Stmt) (ps : List Str) : Prop := ∃ f fd, Mt K C m q st ps f fd
theorem Mx.ok {k : Nat} {C : Addr} {m q : Str} {st : Stmt} {N ps : List Str} {sp : Sp} (D : Mx K C m q st ps) (S : FnScope N ps (defScope st)) (len : ∀ vs H Q E, sp vs H Q E → vs.length = ps.length)
    (hbody : ∀ (f : Addr) (cdv : Value) (A : Around) (outer : List Env) (s : Shared) (H : Hp) (vs : List V) (Q : VK) (E : XK), Room k (A.deeper (envOfC q (defScope st) s.heap.objs.size f cdv)) → sp vs H Q E →
      ∃ t, PSs (cxOf CX0 P w K mg base N q (defScope st) f cdv A outer s H E).nox (defBody st) t ∧ t { nx := fun _ H' => Q .non H', rt := Q } (start N vs) H) : Fm P w K mg base (k + 1) C m ps sp := by
  obtain ⟨f, fd, D⟩ := D
  exact ⟨f, fd, D.fn.ok S len fun cdv A outer s H vs Q E hr h => hbody f cdv A outer s H vs Q E hr h, D.b, D.me⟩
def spIsMode : Sp := fun vs H Q _ => ∃ z : Int, vs = [.int z] ∧ Q (.bl (decide (0 ≤ z ∧ z ≤ 15))) H
theorem scIsMode : FnScope ["mode"] ["mode"] (defScope sIsMode) := ⟨rfl, rfl, rfl, by decide +kernel, rfl, by decide +kernel, by decide +kernel⟩
theorem ok_isMode (T : Glo K mg) (D : Dx K mg "is_mode" sIsMode ["mode"]) : Fk P w K mg base 1 "is_mode" ["mode"] spIsMode := by
  refine D.ok scIsMode (fun vs H Q E h => ?_) (fun f cdv A outer s H vs Q E hr h => ?_)
  · obtain ⟨z, rfl, _⟩ := h
    rfl
  · obtain ⟨z, rfl, k⟩ := h
    refine ⟨_, pss_one (ps_ret (pe_chain op_le op_le pe_int (pv 0) (pgi T.mostM))), ?_⟩
    refine ⟨_, rfl, _, _, rfl, rfl, _, rfl, ite2 (fun h => ?_) (fun h => ?_)⟩
    · refine ⟨_, _, rfl, rfl, ?_⟩
      have e : decide (0 ≤ z ∧ z ≤ 15) = decide (z ≤ 15) := by simp [of_decide_eq_true h]
      rw [e] at k
      exact k
    · have e : decide (0 ≤ z ∧ z ≤ 15) = false := decide_eq_false fun q => h (decide_eq_true q.1)
      rw [e] at k
      exact k
def spCodeRow : Sp := fun vs H Q _ => ∃ (p o : Addr) (c : Cd) (zs : List Int), vs = [.ref p, .ref o] ∧ CodeAt H p c ∧ c.length ≤ 400 ∧ H o = some (.lst (zs.map V.int)) ∧ zs.length ≤ 400 ∧ RetL H ((rowOf c ++ (zs.length : Int) :: zs).map V.int) Q
theorem scCodeRow : FnScope ["lines", "outs"] ["lines", "outs"] (defScope sCodeRow) := ⟨rfl, rfl, rfl, by decide +kernel, rfl, by decide +kernel, by decide +kernel⟩
theorem rowOf_len (c : Cd) : (rowOf c).length ≤ 3 * c.length + 1 := by
  unfold rowOf
  have := SC.tolds_len c
  rw [List.length_cons]
  omega
theorem ok_codeRow (T : Glo K mg) (D : Dx K mg "code_row" sCodeRow ["lines", "outs"]) (C : Fk P w K mg base 1 "number_row" ["lines"] spRow) : Fk P w K mg base 2 "code_row" ["lines", "outs"] spCodeRow := by
  refine D.ok scCodeRow (fun vs H Q E h => ?_) (fun f cdv A outer s H vs Q E hr h => ?_)
  · obtain ⟨p, o, c, zs, rfl, _⟩ := h
    rfl
  · obtain ⟨p, o, c, zs, rfl, hc, hlen, ho, hz, k⟩ := h
    refine ⟨_, pss_one (ps_ret (pe_op op_cat (pe_op op_cat (pcall C hr (pa_cons (pv 0) pa_nil)) (pe_lst (pa_cons (pe_callB call_len_seq rfl T.nLen PySem.boot_len (pa_cons (pv 1) pa_nil)) pa_nil))) (pv 1))), ?_⟩
    have hrl := rowOf_len c
    refine ⟨_, rfl, p, c, rfl, hc, hlen, fun H1 a s1 ha1 ha => ⟨_, rfl, o, _, rfl, .inl (SqL.of (s1 _ _ ho)), by show 1 ≤ sizeLine; decide, fun b hb => ?_⟩⟩
    have s2 := same_new (o := .lst [.int (zs.map V.int).length]) hb
    refine ⟨a, b, _, _, rfl, rfl, s2 _ _ ha, upd_same, ?_, fun d hd => ?_⟩
    · rw [List.length_map]
      exact Nat.le_trans (show (rowOf c).length + 1 ≤ 2000 by omega) (by decide)
    have s3 := same_new (o := .lst ((rowOf c).map V.int ++ [.int (zs.map V.int).length])) hd
    have S := s1.trans (s2.trans s3)
    refine ⟨_, rfl, d, o, _, _, rfl, rfl, upd_same, S _ _ ho, ?_, fun e he => ?_⟩
    · rw [List.length_append, List.length_map, List.length_map]
      exact Nat.le_trans (show (rowOf c).length + 1 + zs.length ≤ 3000 by omega) (by decide)
    · refine k _ e (S.trans (same_new he)) (S.free he) ?_
      rw [upd_same, List.length_map, List.map_append, List.append_assoc]
      rfl
/-! ### the class Holder -/
structure THold (K : PySem.W.Frag) (mg : Str → Option Value) (C : Addr) : Prop where
  cl : Cls K C
  nI : NoAttr K C "inputs"
  nL : NoAttr K C "lines"
  nO : NoAttr K C "outs"
def hf (i l o : V) : List (Str × V) := [(("inputs" : Str), i), ("lines", l), ("outs", o)]
theorem hf_inputs (i l o : V) : (hf i l o).lookup ("inputs" : Str) = some i := rfl
theorem hf_lines (i l o : V) : (hf i l o).lookup ("lines" : Str) = some l := rfl
theorem hf_outs (i l o : V) : (hf i l o).lookup ("outs" : Str) = some o := rfl
abbrev HSt := Vagral.State
/-- a Holder stands at x, with its lists at pl and po -/
def HoldAt (C : Addr) (H : Hp) (x : Addr) (s : HSt) (pl po : Addr) : Prop := (∃ dx, H x = some (.ins C dx (hf (.int (s.inputs : Nat)) (.ref pl) (.ref po)))) ∧ CodeAt H pl s.code ∧ H po = some (.lst (nats s.outs))
theorem HoldAt.same {C : Addr} {H H' : Hp} {x : Addr} {s : HSt} {pl po : Addr} (h : HoldAt C H x s pl po) (e : Same H H') : HoldAt C H' x s pl po := by
  obtain ⟨⟨dx, h1⟩, h2, h3⟩ := h
  exact ⟨⟨dx, e _ _ h1⟩, h2.same e, e _ _ h3⟩
/-- all but the object at x is as it was -/
def But (x : Addr) (H H' : Hp) : Prop := ∀ b o, H b = some o → b ≠ x → H' b = some o
theorem But.of {x : Addr} {H H' : Hp} (h : Same H H') : But x H H' := fun b o e _ => h b o e
theorem CodeAt.but {C : Addr} {H H' : Hp} {x p dx : Addr} {c : Cd} {fs : List (Str × V)} (h : CodeAt H p c) (hx : H x = some (.ins C dx fs)) (e : But x H H') : CodeAt H' p c := by
  obtain ⟨as, h1, h2⟩ := h
  refine ⟨as, e _ _ h1 (ne_of h1 hx (by intro z; cases z)), paired_imp (fun a l q => e _ _ q (ne_of q hx (by intro z; cases z))) h2⟩
theorem but_upd {x : Addr} {H : Hp} {o : HO} : But x H (upd H x o) := fun b u e hb => by rw [upd_ne hb]; exact e
theorem But.trans {x : Addr} {H H1 H2 : Hp} (a : But x H H1) (b : But x H1 H2) : But x H H2 := fun c o e h => b c o (a c o e h) h
def spHI (C : Addr) : Sp := fun vs H Q _ => ∃ (x dx : Addr), vs = [.ref x] ∧ H x = some (.ins C dx []) ∧ ∀ (H' : Hp) (pl po : Addr), HoldAt C H' x Vagral.start pl po → H pl = none → H po = none → But x H H' → Q .non H'
theorem scHI : FnScope ["self"] ["self"] (defScope sHInit) := ⟨rfl, rfl, rfl, by decide +kernel, rfl, by decide +kernel, by decide +kernel⟩
theorem ok_HI {C fI : Addr} {fdI : FuncData} (T : THold K mg C) (F : Fun K "__init__" "Holder.__init__" sHInit fI fdI) : FnOk P w K mg base CX0 1 fI fdI ["self"] (spHI C) := by
  refine F.ok scHI (fun vs H Q E h => ?_) (fun cdv A outer s H vs Q E hr h => ?_)
  · obtain ⟨x, dx, rfl, _⟩ := h
    rfl
  · obtain ⟨x, dx, rfl, hx, k⟩ := h
    refine ⟨_, pss_cons (ps_fld (pv 0) pe_int rfl) (pss_cons (ps_fld (pv 0) (pe_lst pa_nil) rfl) (pss_one (ps_fld (pv 0) (pe_lst pa_nil) rfl))), ?_⟩
    refine ⟨_, rfl, x, C, dx, [], rfl, hx, T.cl, T.nI, (by show 0 < 1000; decide), ?_⟩
    refine ⟨by show 0 ≤ sizeLine; decide, fun pl fl => ?_⟩
    have b1 : But x H (upd H x (.ins C dx (putF "inputs" (.int 0) []))) := but_upd
    have s2 := same_new (o := .lst []) fl
    refine ⟨_, rfl, x, C, dx, _, rfl, s2 _ _ upd_same, T.cl, T.nL, (by show 1 < 1000; decide), ?_⟩
    refine ⟨by show 0 ≤ sizeLine; decide, fun po fo => ?_⟩
    have nlx : pl ≠ x := fun e => by rw [e, upd_same] at fl; cases fl
    have nox : po ≠ x := fun e => by rw [e, upd_same] at fo; cases fo
    have s4 := same_new (o := .lst []) fo
    refine ⟨_, rfl, x, C, dx, _, rfl, s4 _ _ upd_same, T.cl, T.nO, (by show 2 < 1000; decide), ?_⟩
    have hpl : H pl = none := by rw [upd_ne nlx] at fl; exact fl
    have nol : pl ≠ po := ne_of_none (by rw [upd_ne nlx]; exact upd_same) fo
    refine k _ pl po ⟨⟨dx, upd_same⟩, ⟨[], ?_, .nil⟩, ?_⟩ hpl ?_ ((b1.trans (But.of s2)).trans (but_upd.trans ((But.of s4).trans but_upd)))
    · rw [upd_ne nlx, upd_ne nol, upd_ne nlx]; exact upd_same
    · rw [upd_ne nox]; exact upd_same
    · rw [upd_ne nox, upd_ne (Ne.symm nol), upd_ne nox] at fo; exact fo
/-! ### is_line, new_outs -/
def spIsLine (C : Addr) : Sp := fun vs H Q _ => ∃ (x pl po : Addr) (s : HSt) (z : Int), vs = [.ref x, .int z] ∧ HoldAt C H x s pl po ∧ Q (.bl (decide (0 ≤ z ∧ z < (s.code.length : Int)))) H
theorem scIsLine : FnScope ["self", "number"] ["self", "number"] (defScope sIsLine) := ⟨rfl, rfl, rfl, by decide +kernel, rfl, by decide +kernel, by decide +kernel⟩
theorem ok_isLine {C : Addr} (T : Glo K mg) (TH : THold K mg C) (D : Mx K C "is_line" "Holder.is_line" sIsLine ["self", "number"]) : Fm P w K mg base 1 C "is_line" ["self", "number"] (spIsLine C) := by
  refine D.ok scIsLine (fun vs H Q E h => ?_) (fun f cdv A outer s H vs Q E hr h => ?_)
  · obtain ⟨x, pl, po, s, z, rfl, _⟩ := h
    rfl
  · obtain ⟨x, pl, po, st, z, rfl, ⟨⟨dx, hx⟩, ⟨as, hp, hl⟩, ho⟩, k⟩ := h
    refine ⟨_, pss_one (ps_ret (pe_chain op_le op_lt pe_int (pv 1) (pe_callB call_len_seq rfl T.nLen PySem.boot_len (pa_cons (pe_fld (pv 0) rfl) pa_nil)))), ?_⟩
    refine ⟨_, rfl, _, _, rfl, rfl, _, rfl, ite2 (fun h => ?_) (fun h => ?_)⟩
    · refine ⟨_, rfl, x, C, dx, _, _, rfl, hx, TH.cl, TH.nL, hf_lines _ _ _, pl, _, rfl, .inl (SqL.of hp), _, _, rfl, rfl, ?_⟩
      have e : decide (0 ≤ z ∧ z < (st.code.length : Int)) = decide (z < ((as.map V.ref).length : Int)) := by
        rw [List.length_map, hl.len]
        simp [of_decide_eq_true h]
      rw [e] at k
      exact k
    · have e : decide (0 ≤ z ∧ z < (st.code.length : Int)) = false := decide_eq_false fun q => h (decide_eq_true q.1)
      rw [e] at k
      exact k
def spNewOuts (C CM : Addr) : Sp := fun vs H Q _ => ∃ (x q pl po : Addr) (s : HSt) (c : Cd) (to : List Int), vs = [.ref x, .ref q] ∧ HoldAt C H x s pl po ∧ MadeAt CM H q c to ∧ (∀ o ∈ s.outs, o < to.length) ∧ s.outs.length ≤ 12 ∧ RetL H ((s.outs.map fun o => to.getD o 0).map V.int) Q
theorem scNewOuts : FnScope ["self", "made", "out"] ["self", "made"] (defScope sNewOuts) := ⟨rfl, rfl, rfl, by decide +kernel, rfl, by decide +kernel, by decide +kernel⟩
theorem ok_newOuts {C CM fI : Addr} {fdI : FuncData} (T : Glo K mg) (TH : THold K mg C) (TM : TMade K mg CM fI fdI) (D : Mx K C "new_outs" "Holder.new_outs" sNewOuts ["self", "made"]) : Fm P w K mg base 1 C "new_outs" ["self", "made"] (spNewOuts C CM) := by
  refine D.ok scNewOuts (fun vs H Q E h => ?_) (fun f cdv A outer s H vs Q E hr h => ?_)
  · obtain ⟨x, q, pl, po, s, c, to, rfl, _⟩ := h
    rfl
  · obtain ⟨x, q, pl, po, st, c, to, rfl, ⟨⟨dx, hx⟩, hc, ho⟩, ⟨dq, ql, qw, hq, hql, hqw⟩, hos, hol, k⟩ := h
    refine ⟨_, pss_one (ps_ret (pe_lc rfl scNewOuts.nd (pi_list (pe_fld (pv 0) rfl)) (blkOk_by (own := [("out", 2)]) rfl)
          (fun _ _ _ _ _ => pg_name (i := 2) scNewOuts.nd rfl (Or.inl rfl)) (fun _ _ _ _ _ => pts_nil) (fun _ _ _ _ _ => pe_ix (r := rIxL K) ix_list (pfld K rfl (pv 1) rfl) (pv 2) (fun _ _ => rfl)))), ?_⟩
    refine ⟨_, rfl, x, C, dx, _, _, rfl, hx, TH.cl, TH.nO, hf_outs _ _ _, po, rfl, ⟨_, SqL.of ho⟩, fun D hD => ?_⟩
    refine lc_mapL (xs := nats st.outs) (fun j => V.int (to.getD (st.outs.getD j 0) 0)) hD (SqL.of ho) (by rw [nats_len]; exact Nat.le_trans hol (by decide)) (fun j z H3 k3 hz s3 kk => ?_) (fun H3 s3 hD3 => ?_)
    · obtain ⟨u, hu1, rfl⟩ := nats_of hz
      have hu : u < to.length := hos u (List.mem_of_getElem? hu1)
      refine ⟨rfl, _, rfl, q, CM, dq, _, _, rfl, s3 _ _ hq, TM.cl, TM.nW, mf_went _ _, _, rfl, qw, _, _, _, rfl, rfl, SqL.of (s3 _ _ hqw), atI_nat (j := u) (v := V.int (to.getD u 0)) (by rw [List.getElem?_map, List.getElem?_eq_getElem hu, List.getD_eq_getElem?_getD, List.getElem?_eq_getElem hu]; rfl), ?_⟩
      have := kk H3 (Same.refl H3)
      rw [getD_of hu1] at this
      exact this
    · have eD : (List.range (nats st.outs).length).map (fun j => V.int (to.getD (st.outs.getD j 0) 0)) = (st.outs.map fun o => to.getD o 0).map V.int := by
        rw [List.map_map, nats_len]
        exact range_map_get fun j u e => by rw [getD_of e]; rfl
      rw [eD] at hD3
      exact k H3 D s3 hD hD3
end
end SD
set_option maxHeartbeats 1000000
namespace SD
open PySem PySem.Spec PyProof.Rows L2
open Vagraa (Frac frac zero one isZero weight)
open VagraLine (Line)
open Vagral (Mode)
section
variable {P : Program} {w : World} {K : PySem.W.Frag} {mg : Str → Option Value} {base : Heap}
/-! ### the calls -/
def Post (C x pl po : Addr) (H : Hp) (r : HSt × List Int) (Q : VK) : Prop := ∀ (H' : Hp) (q pl' po' : Addr), But x H H' → HoldAt C H' x r.1 pl' po' → (pl' = pl ∨ H pl' = none) → (po' = po ∨ H po' = none) → H q = none → H' q = some (.lst (r.2.map V.int)) → Q (.ref q) H'
theorem Post.tell {C x pl po : Addr} {H : Hp} {s : HSt} {l : List Int} {Q : VK} {r : HSt × List Int} (k : Post C x pl po H r Q) (e : r = (s, l)) (h : HoldAt C H x s pl po) {H' : Hp} {q : Addr} (sm : Same H H') (fq : H q = none) (hq : H' q = some (.lst (l.map V.int))) : Q (.ref q) H' := by
  subst e
  exact k H' q pl po (But.of sm) (h.same sm) (.inl rfl) (.inl rfl) fq hq
theorem But.free {x b : Addr} {H H' : Hp} {u : HO} (h : But x H H') (hx : H' x = some u) (hb : H' b = none) : H b = none := by
  cases e : H b with
  | none => rfl
  | some o =>
    have nx : b ≠ x := fun q => by rw [q, hx] at hb; cases hb
    rw [h b o e nx] at hb
    cases hb
/-! ### hold_code -/
def spHoldCode (K : PySem.W.Frag) (C : Addr) : Sp := fun vs H Q _ => ∃ (x pl po p : Addr) (s : HSt) (n : Int) (ns : List Int), vs = [.ref x, .int n, .ref p] ∧ HoldAt C H x s pl po ∧ SqL K H p (ns.map V.int) ∧ (∀ z ∈ ns, z.natAbs ≤ 10 ^ 18) ∧ ns.length ≤ 400 ∧ Post C x pl po H (SC.res s (.code n ns)) Q
theorem scHoldCode : FnScope ["self", "inputs", "row", "lines"] ["self", "inputs", "row"] (defScope sHoldCode) := ⟨rfl, rfl, rfl, by decide +kernel, rfl, by decide +kernel, by decide +kernel⟩
theorem ok_holdCode {C : Addr} (T : Glo K mg) (T3 : Glo3 mg) (TH : THold K mg C) (D : Mx K C "hold_code" "Holder.hold_code" sHoldCode ["self", "inputs", "row"]) (C1 : Fk P w K mg base 5 "read_lines" ["row"] (spRdLs K)) (C2 : Fk P w K mg base 3 "uses_only_earlier" ["lines", "inputs"] spEarly) :
    Fm P w K mg base 11 C "hold_code" ["self", "inputs", "row"] (spHoldCode K C) := by
  refine D.ok scHoldCode (fun vs H Q E h => ?_) (fun f cdv A outer s H vs Q E hr h => ?_)
  · obtain ⟨x, pl, po, p, s, n, ns, rfl, _⟩ := h
    rfl
  · obtain ⟨x, pl, po, p, st, n, ns, rfl, hH, hp, hB, hlen, k⟩ := h
    refine ⟨_, pss_cons (ps_if (pt_not (pt_chain op_le op_le pe_int (pv 1) (pgi T.mostI))) (pss_one (ps_ret (pe_lst (pa_cons (pgi T3.wN) pa_nil)))) pss_nil)
      (pss_cons (ps_set (i := 3) scHoldCode.nd rfl (Or.inl rfl) (pcall C1 (hr.mono (by decide)) (pa_cons (pv 2) pa_nil)))
      (pss_cons (ps_if (pt_cmpR op_isN (pv 3) pe_non (nomark _)) (pss_one (ps_ret (pe_lst (pa_cons (pgi T3.wL) pa_nil)))) pss_nil)
      (pss_cons (ps_if (pt_cmpR op_gt (pe_callB call_len_seq rfl T.nLen PySem.boot_len (pa_cons (pv 3) pa_nil)) (pgi T.mostL) (nomark _)) (pss_one (ps_ret (pe_lst (pa_cons (pgi T3.tM) pa_nil)))) pss_nil)
      (pss_cons (ps_if (pt_not (pt_val (pcall C2 (hr.mono (by decide)) (pa_cons (pv 3) (pa_cons (pv 1) pa_nil))))) (pss_one (ps_ret (pe_lst (pa_cons (pgi T3.wU) pa_nil)))) pss_nil)
      (pss_cons (ps_fld (pv 0) (pv 1) rfl)
      (pss_cons (ps_fld (pv 0) (pv 3) rfl)
      (pss_cons (ps_fld (pv 0) (pe_ifExp (pt_cmpR op_gt (pe_callB call_len_seq rfl T.nLen PySem.boot_len (pa_cons (pv 3) pa_nil)) pe_int (nomark _)) (pe_lst (pa_cons (pe_op op_sub (pe_callB call_len_seq rfl T.nLen PySem.boot_len (pa_cons (pv 3) pa_nil)) pe_int) pa_nil)) (pe_lst pa_nil)) rfl)
      (pss_one (ps_ret (pe_lst (pa_cons (pe_callB call_len_seq rfl T.nLen PySem.boot_len (pa_cons (pv 3) pa_nil)) pa_nil))))))))))), ?_⟩
    have no : ∀ {H1 : Hp} {z : Int}, Same H H1 → SC.res st (.code n ns) = (st, [z]) → (1 ≤ sizeLine ∧ ∀ q, H1 q = none → Q (.ref q) (upd H1 q (.lst [.int z]))) := fun s1 e => ⟨by decide, fun q hq => k.tell e hH (s1.trans (same_new hq)) (s1.free hq) upd_same⟩
    by_cases hn : 0 ≤ n ∧ n ≤ 12
    · refine ⟨_, rfl, _, _, rfl, rfl, _, rfl, ite2 (fun _ => ⟨_, _, rfl, rfl, _, rfl, ite2 (fun h => ?_) (fun _ => ?_)⟩) (fun h => absurd (decide_eq_true hn.1) h)⟩
      · rw [decide_eq_true hn.2] at h; cases h
      refine ⟨_, rfl, p, ns, rfl, hp, hB, hlen, ?_⟩
      cases ec : SC.co ns with
      | none => exact fun H1 s1 => ⟨_, rfl, rfl, _, rfl, iteT (no s1 (SC.code_2 hn ec))⟩
      | some c =>
        refine fun H1 p3 s1 f3 hc3 => ⟨_, rfl, rfl, _, rfl, ite2 (fun h => absurd (of_decide_eq_true h) (by intro z; cases z)) (fun _ => ?_)⟩
        obtain ⟨as, hp3, hl3⟩ := hc3
        have hal : (as.map V.ref).length = c.length := by rw [List.length_map, hl3.len]
        refine ⟨_, rfl, p3, _, rfl, .inl (SqL.of hp3), _, _, rfl, rfl, _, rfl, ite2 (fun h => ?_) (fun h => ?_)⟩
        · have h8 : 80 < c.length := by have : ((as.map V.ref).length : Int) > 80 := of_decide_eq_true h
                                        omega
          exact no s1 (SC.code_7 hn ec h8)
        have h8 : ¬ 80 < c.length := fun q => h (decide_eq_true (by show ((as.map V.ref).length : Int) > 80; omega))
        obtain ⟨nn, rfl⟩ : ∃ nn : Nat, n = (nn : Int) := ⟨n.toNat, by omega⟩
        refine ⟨_, rfl, _, rfl, p3, c, nn, rfl, ⟨as, hp3, hl3⟩, by omega, fun H2 s2 => ⟨_, rfl, ite2 (fun h => ?_) (fun h => ?_)⟩⟩
        · exact no (s1.trans s2) (SC.code_3 hn ec h8 (by simpa using h))
        have hw : ¬ VagraLine.well (nn : Int).toNat c = false := by simpa using h
        have er := SC.code_ok (s := st) hn ec h8 hw
        rw [er] at k
        obtain ⟨⟨dx, hx⟩, hcd, hou⟩ := hH
        have S2 := s1.trans s2
        have hx2 := S2 _ _ hx
        have hp32 := s2 _ _ hp3
        have n3x : p3 ≠ x := ne_of hp32 hx2 (by intro z; cases z)
        refine ⟨_, rfl, _, rfl, x, C, dx, _, rfl, hx2, TH.cl, TH.nI, (by show 3 < 1000; decide), ?_⟩
        refine ⟨_, rfl, _, rfl, x, C, dx, hf (.int nn) (.ref pl) (.ref po), rfl, upd_same, TH.cl, TH.nL, (by show 3 < 1000; decide), ?_⟩
        have b4 : But x H2 (upd (upd H2 x (.ins C dx (hf (.int nn) (.ref pl) (.ref po)))) x (.ins C dx (hf (.int nn) (.ref p3) (.ref po)))) := but_upd.trans but_upd
        have x4 : (upd (upd H2 x (.ins C dx (hf (.int nn) (.ref pl) (.ref po)))) x (.ins C dx (hf (.int nn) (.ref p3) (.ref po)))) x = some (.ins C dx (hf (.int nn) (.ref p3) (.ref po))) := upd_same
        generalize hH4 : upd (upd H2 x (.ins C dx (hf (.int nn) (.ref pl) (.ref po)))) x (.ins C dx (hf (.int nn) (.ref p3) (.ref po))) = H4 at b4 x4
        have hp34 := b4 _ _ hp32 n3x
        have fin : ∀ (os : List Nat) (po' : Addr), H4 po' = none → (if c = [] then [] else [c.length - 1]) = os → ∀ q, (upd (upd H4 po' (.lst (nats os))) x (.ins C dx (hf (.int nn) (.ref p3) (.ref po')))) q = none →
            Q (.ref q) (upd (upd (upd H4 po' (.lst (nats os))) x (.ins C dx (hf (.int nn) (.ref p3) (.ref po')))) q (.lst [.int (as.map V.ref).length])) := by
          intro os po' fo eo q fq
          have nox : po' ≠ x := fun e => by rw [e, x4] at fo; cases fo
          have bb : But x H2 (upd (upd (upd H4 po' (.lst (nats os))) x (.ins C dx (hf (.int nn) (.ref p3) (.ref po')))) q (.lst [.int (as.map V.ref).length])) := b4.trans ((But.of (same_new fo)).trans (but_upd.trans (But.of (same_new fq))))
          refine k _ q p3 po' ((But.of S2).trans bb) ⟨⟨dx, (same_new fq) _ _ upd_same⟩, ?_, ?_⟩ (.inr f3) (.inr (S2.free (b4.free x4 fo))) (S2.free ((b4.trans ((But.of (same_new fo)).trans but_upd)).free upd_same fq)) ?_
          · exact (show CodeAt H2 p3 c from ⟨as, hp32, hl3.same s2⟩).but hx2 bb
          · show _ = some (HO.lst (nats (if c = [] then [] else [c.length - 1])))
            rw [eo]
            refine (same_new fq) _ _ ?_
            rw [upd_ne nox]; exact upd_same
          · rw [upd_same, hal]; rfl
        rw [show upd (upd H2 x (.ins C dx (putF "inputs" (.int nn) (hf (.int (st.inputs : Nat)) (.ref pl) (.ref po))))) x (.ins C dx (putF "lines" (.ref p3) (hf (.int nn) (.ref pl) (.ref po)))) = H4 from hH4]
        refine ⟨_, rfl, p3, _, rfl, .inl (SqL.of hp34), _, _, rfl, rfl, _, rfl, ite2 (fun h => ?_) (fun h => ?_)⟩
        · have hc0 : ¬ c = [] := fun q => by
            have : ((as.map V.ref).length : Int) > 0 := of_decide_eq_true h
            rw [hal, q] at this
            simp at this
          refine ⟨_, rfl, p3, _, rfl, .inl (SqL.of hp34), _, _, rfl, rfl, by show 1 ≤ sizeLine; decide, fun po' fo => ?_⟩
          have el : ([V.int (((as.map V.ref).length : Int) - 1)] : List V) = nats [c.length - 1] := by
            have : 0 < c.length := List.length_pos_iff.mpr hc0
            show [V.int _] = [V.int ((c.length - 1 : Nat) : Int)]
            rw [hal, show ((c.length - 1 : Nat) : Int) = (c.length : Int) - 1 by omega]
          have fo' : H4 po' = none := fo
          have F := fin [c.length - 1] po' fo' (if_neg hc0)
          rw [← el] at F
          refine ⟨_, rfl, x, C, dx, hf (.int nn) (.ref p3) (.ref po), rfl, (same_new fo) _ _ x4, TH.cl, TH.nO, (by show 3 < 1000; decide), ?_⟩
          have n3o : p3 ≠ po' := ne_of_none hp34 fo'
          exact ⟨_, rfl, p3, _, rfl, .inl (SqL.of (by rw [upd_ne n3x, upd_ne n3o]; exact hp34)), by show 1 ≤ sizeLine; decide, fun q fq => F q fq⟩
        · have hc0 : c = [] := by
            have : ¬ ((as.map V.ref).length : Int) > 0 := fun q => h (decide_eq_true q)
            rw [hal] at this
            exact List.eq_nil_of_length_eq_zero (by omega)
          refine ⟨by show 0 ≤ sizeLine; decide, fun po' fo => ?_⟩
          have fo' : H4 po' = none := fo
          have F := fin [] po' fo' (if_pos hc0)
          refine ⟨_, rfl, x, C, dx, hf (.int nn) (.ref p3) (.ref po), rfl, (same_new fo) _ _ x4, TH.cl, TH.nO, (by show 3 < 1000; decide), ?_⟩
          have n3o : p3 ≠ po' := ne_of_none hp34 fo'
          exact ⟨_, rfl, p3, _, rfl, .inl (SqL.of (by rw [upd_ne n3x, upd_ne n3o]; exact hp34)), by show 1 ≤ sizeLine; decide, fun q fq => F q fq⟩
    · refine ⟨_, rfl, _, _, rfl, rfl, _, rfl, ite2 (fun h0 => ⟨_, _, rfl, rfl, _, rfl, ite2 (fun _ => no (Same.refl H) (SC.code_1 hn)) (fun h => ?_)⟩) (fun _ => ⟨_, rfl, iteT (no (Same.refl H) (SC.code_1 hn))⟩)⟩
      exfalso
      have h1 : (0 : Int) ≤ n := of_decide_eq_true h0
      have h2 : ¬ n ≤ 12 := fun q => hn ⟨h1, q⟩
      exact h (by rw [decide_eq_false h2]; rfl)
end
end SD
set_option maxHeartbeats 1000000
namespace SD
open PySem PySem.Spec PyProof.Rows L2
open Vagraa (Frac frac zero one isZero weight)
open VagraLine (Line)
open Vagral (Mode)
section
variable {P : Program} {w : World} {K : PySem.W.Frag} {mg : Str → Option Value} {base : Heap}
theorem seq_but {C : Addr} {H H' : Hp} {x p dx : Addr} {fs : List (Str × V)} {xs : List V} (h : SqL K H p xs) (hx : H x = some (.ins C dx fs)) (e : But x H H') : SqL K H' p xs := by
  rcases h with (h | ⟨o, h⟩) | h
  · exact .inl (.inl (e _ _ h (ne_of h hx (by intro z; cases z))))
  · exact .inl (.inr ⟨o, e _ _ h (ne_of h hx (by intro z; cases z))⟩)
  · exact .inr h
/-! ### hold_outs -/
theorem boot_list' : bootBuiltins "list" = some (.type "list") := by decide +kernel
def spHoldOuts (K : PySem.W.Frag) (C : Addr) : Sp := fun vs H Q _ => ∃ (x pl po p : Addr) (s : HSt) (ns : List Int), vs = [.ref x, .ref p] ∧ HoldAt C H x s pl po ∧ SqL K H p (ns.map V.int) ∧ ns.length ≤ 400 ∧ Post C x pl po H (SC.res s (.outs ns)) Q
theorem scHoldOuts : FnScope ["self", "outs", "out"] ["self", "outs"] (defScope sHoldOuts) := ⟨rfl, rfl, rfl, by decide +kernel, rfl, by decide +kernel, by decide +kernel⟩
theorem nats_toNat : ∀ {ns : List Int}, (∀ z ∈ ns, 0 ≤ z) → nats (ns.map Int.toNat) = ns.map V.int
  | [], _ => rfl
  | z :: ns, h => by
    have h0 := h z (by simp)
    have e : ((z.toNat : Nat) : Int) = z := by omega
    have ih := nats_toNat (ns := ns) fun y hy => h y (by simp [hy])
    show V.int ((z.toNat : Nat) : Int) :: nats (ns.map Int.toNat) = V.int z :: ns.map V.int
    rw [ih, e]
theorem ok_holdOuts {C : Addr} (T : Glo K mg) (T3 : Glo3 mg) (TH : THold K mg C) (D : Mx K C "hold_outs" "Holder.hold_outs" sHoldOuts ["self", "outs"]) (GL : Fm P w K mg base 1 C "is_line" ["self", "number"] (spIsLine C)) :
    Fm P w K mg base 11 C "hold_outs" ["self", "outs"] (spHoldOuts K C) := by
  refine D.ok scHoldOuts (fun vs H Q E h => ?_) (fun f cdv A outer s H vs Q E hr h => ?_)
  · obtain ⟨x, pl, po, p, s, ns, rfl, _⟩ := h
    rfl
  · obtain ⟨x, pl, po, p, st, ns, rfl, hH, hp, hlen, k⟩ := h
    refine ⟨_, pss_cons (ps_if (pt_cmpR op_gt (pe_callB call_len_seq rfl T.nLen PySem.boot_len (pa_cons (pv 1) pa_nil)) (pgi T3.mO) (nomark _)) (pss_one (ps_ret (pe_lst (pa_cons (pgi T3.wL) pa_nil)))) pss_nil)
      (pss_cons (ps_if (pt_val (pe_callB (cr_any rfl) rfl T.nAny boot_any' (pa_cons (pe_lc rfl scHoldOuts.nd (pi_list (pv 1)) (blkOk_by (own := [("out", 2)]) rfl)
          (fun _ _ _ _ _ => pg_name (i := 2) scHoldOuts.nd rfl (Or.inl rfl)) (fun _ _ _ _ _ => pts_nil) (fun _ _ _ _ _ => pe_not (pmeth GL TH.cl (hr.mono (by decide)) (pv 0) (pa_cons (pv 2) pa_nil)))) pa_nil))) (pss_one (ps_ret (pe_lst (pa_cons (pgi T3.wL) pa_nil)))) pss_nil)
      (pss_cons (ps_fld (pv 0) (pe_callTy call_list_of rfl T3.nList boot_list' (pa_cons (pv 1) pa_nil)) rfl)
      (pss_one (ps_ret (pe_lst (pa_cons (pe_callB call_len_seq rfl T.nLen PySem.boot_len (pa_cons (pv 1) pa_nil)) pa_nil)))))), ?_⟩
    have no : ∀ {H1 : Hp} {z : Int}, Same H H1 → SC.res st (.outs ns) = (st, [z]) → (1 ≤ sizeLine ∧ ∀ q, H1 q = none → Q (.ref q) (upd H1 q (.lst [.int z]))) := fun s1 e => ⟨by decide, fun q hq => k.tell e hH (s1.trans (same_new hq)) (s1.free hq) upd_same⟩
    have hml : (ns.map V.int).length = ns.length := List.length_map _
    refine ⟨_, rfl, p, _, rfl, .inl hp, _, _, rfl, rfl, _, rfl, ite2 (fun h => ?_) (fun h => ?_)⟩
    · have h12 : ¬ ns.length ≤ 12 := by have : ((ns.map V.int).length : Int) > 12 := of_decide_eq_true h
                                        omega
      exact no (Same.refl H) (SC.outs_bad fun q => h12 q.2)
    have h12 : ns.length ≤ 12 := by have : ¬ ((ns.map V.int).length : Int) > 12 := fun q => h (decide_eq_true q)
                                    omega
    refine ⟨_, rfl, p, rfl, ⟨_, hp⟩, fun D hD => ?_⟩
    refine lc_mapL (xs := ns.map V.int) (fun j => V.bl (!decide (0 ≤ ns.getD j 0 ∧ ns.getD j 0 < (st.code.length : Int)))) hD hp (by rw [hml]; exact Nat.le_trans hlen (by decide)) (fun j z H3 k3 hz s3 kk => ?_) (fun H3 s3 hD3 => ?_)
    · obtain ⟨u, hu, rfl⟩ : ∃ u, ns[j]? = some u ∧ z = V.int u := by
        rw [List.getElem?_map] at hz
        cases e : ns[j]? with
        | none => rw [e] at hz; cases hz
        | some u => rw [e] at hz; exact ⟨u, rfl, (Option.some.inj hz).symm⟩
      obtain ⟨⟨dx, hx⟩, _⟩ := hH.same s3
      refine ⟨rfl, _, rfl, x, dx, _, rfl, hx, rfl, _, rfl, x, pl, po, st, u, rfl, hH.same s3, _, rfl, ?_⟩
      have := kk H3 (Same.refl H3)
      rw [show ns.getD j 0 = u by rw [List.getD_eq_getElem?_getD, hu]; rfl] at this
      exact this
    have eD : (List.range (ns.map V.int).length).map (fun j => V.bl (!decide (0 ≤ ns.getD j 0 ∧ ns.getD j 0 < (st.code.length : Int)))) = (ns.map fun z => !decide (0 ≤ z ∧ z < (st.code.length : Int))).map V.bl := by
      rw [List.map_map, hml]
      exact range_map_get fun j u e => by rw [show ns.getD j 0 = u by rw [List.getD_eq_getElem?_getD, e]; rfl]; rfl
    rw [eD] at hD3
    have eall : (ns.all fun i => decide (0 ≤ i) && decide (i < (st.code.length : Int))) = !(ns.any fun z => !decide (0 ≤ z ∧ z < (st.code.length : Int))) := by
      rw [← List.all_eq_not_any_not]
      congr 1
      funext z
      rw [Bool.decide_and]
    refine ⟨D, _, rfl, SqL.of hD3, _, rfl, ?_⟩
    rw [List.any_map]
    refine ite2 (fun hany => ?_) (fun hany => ?_)
    · refine no s3 (SC.outs_bad fun q => ?_)
      rw [eall] at q
      have hany' : (ns.any fun z => !decide (0 ≤ z ∧ z < (st.code.length : Int))) = true := hany
      rw [hany'] at q
      cases q.1
    have hok : (ns.all fun i => decide (0 ≤ i) && decide (i < (st.code.length : Int))) = true := by
      rw [eall]
      have hany' : ¬ (ns.any fun z => !decide (0 ≤ z ∧ z < (st.code.length : Int))) = true := hany
      rw [Bool.eq_false_iff.mpr hany']
      rfl
    have hpos : ∀ z ∈ ns, 0 ≤ z := fun z hz => by
      have := List.all_eq_true.mp hok z hz
      rw [Bool.and_eq_true] at this
      exact of_decide_eq_true this.1
    have er := SC.outs_ok (s := st) (l := ns) ⟨hok, h12⟩
    rw [er] at k
    obtain ⟨⟨dx, hx⟩, hcd, hou⟩ := hH
    have hx3 := s3 _ _ hx
    refine ⟨_, rfl, p, _, rfl, .inl (s3.seq hp), fun po' fo => ?_⟩
    have so := same_new (o := .lst (ns.map V.int)) fo
    have nox : po' ≠ x := fun e => by rw [e, hx3] at fo; cases fo
    refine ⟨_, rfl, x, C, dx, _, rfl, so _ _ hx3, TH.cl, TH.nO, (by show 3 < 1000; decide), ?_⟩
    have b5 : But x H (upd (upd H3 po' (.lst (ns.map V.int))) x (.ins C dx (hf (.int (st.inputs : Nat)) (.ref pl) (.ref po')))) := (But.of (s3.trans so)).trans but_upd
    have x5 : (upd (upd H3 po' (.lst (ns.map V.int))) x (.ins C dx (hf (.int (st.inputs : Nat)) (.ref pl) (.ref po')))) x = some (.ins C dx (hf (.int (st.inputs : Nat)) (.ref pl) (.ref po'))) := upd_same
    have o5 : (upd (upd H3 po' (.lst (ns.map V.int))) x (.ins C dx (hf (.int (st.inputs : Nat)) (.ref pl) (.ref po')))) po' = some (.lst (ns.map V.int)) := by rw [upd_ne nox]; exact upd_same
    refine ⟨_, rfl, p, _, rfl, .inl (seq_but hp hx b5), by show 1 ≤ sizeLine; decide, fun q fq => ?_⟩
    have sq := same_new (o := .lst [.int (ns.map V.int).length]) fq
    refine k _ q pl po' (b5.trans (But.of sq)) ⟨⟨dx, sq _ _ x5⟩, hcd.but hx (b5.trans (But.of sq)), ?_⟩ (.inl rfl) (.inr (s3.free fo)) (b5.free x5 fq) ?_
    · show _ = some (HO.lst (nats (ns.map Int.toNat)))
      rw [nats_toNat hpos]
      exact sq _ _ o5
    · exact Eq.trans upd_same (by rw [hml]; rfl)
end
end SD
set_option maxHeartbeats 1000000
namespace SD
open PySem PySem.Spec PyProof.Rows L2
open Vagraa (Frac frac zero one isZero weight)
open VagraLine (Line)
open Vagral (Mode)
section
variable {P : Program} {w : World} {K : PySem.W.Frag} {mg : Str → Option Value} {base : Heap}
theorem of_not {p : Prop} [Decidable p] (h : (!decide p) = true) : ¬ p := fun q => by rw [decide_eq_true q] at h; cases h
theorem of_nn {p : Prop} [Decidable p] (h : ¬ (!decide p) = true) : p := Classical.byContradiction fun q => h (by rw [decide_eq_false q]; rfl)
/-! ### calls with a mode -/
def spMode (C : Addr) (call : Int → Vagral.Call) : Sp := fun vs H Q _ => ∃ (x pl po : Addr) (s : HSt) (z : Int), vs = [.ref x, .int z] ∧ HoldAt C H x s pl po ∧ SC.SOk s ∧ Post C x pl po H (SC.res s (call z)) Q
theorem scTSmall : FnScope ["self", "mode", "made"] ["self", "mode"] (defScope sTSmall) := ⟨rfl, rfl, rfl, by decide +kernel, rfl, by decide +kernel, by decide +kernel⟩
theorem made_eq (s : HSt) (m : Mode) : s.made m = Vagral.small m s.code s.outs := rfl
theorem ok_tSmall {C CM fI : Addr} {fdI : FuncData} (T : Glo K mg) (T3 : Glo3 mg) (TH : THold K mg C) (TM : TMade K mg CM fI fdI) (D : Mx K C "tell_small" "Holder.tell_small" sTSmall ["self", "mode"]) (C0 : Fk P w K mg base 1 "is_mode" ["mode"] spIsMode) (C1 : Fk P w K mg base 10 "make" ["lines", "outs", "mode"] (spMake CM))
    (C2 : Fk P w K mg base 2 "code_row" ["lines", "outs"] spCodeRow) (GN : Fm P w K mg base 1 C "new_outs" ["self", "made"] (spNewOuts C CM)) : Fm P w K mg base 11 C "tell_small" ["self", "mode"] (spMode C .small) := by
  refine D.ok scTSmall (fun vs H Q E h => ?_) (fun f cdv A outer s H vs Q E hr h => ?_)
  · obtain ⟨x, pl, po, s, z, rfl, _⟩ := h
    rfl
  · obtain ⟨x, pl, po, st, z, rfl, hH, S, k⟩ := h
    refine ⟨_, pss_cons (ps_if (pt_not (pt_val (pcall C0 (hr.mono (by decide)) (pa_cons (pv 1) pa_nil)))) (pss_one (ps_ret (pe_lst (pa_cons (pgi T3.wN) pa_nil)))) pss_nil)
      (pss_cons (ps_set (i := 2) scTSmall.nd rfl (Or.inl rfl) (pcall C1 hr (pa_cons (pe_fld (pv 0) rfl) (pa_cons (pe_fld (pv 0) rfl) (pa_cons (pv 1) pa_nil)))))
      (pss_one (ps_ret (pcall C2 (hr.mono (by decide)) (pa_cons (pe_fld (pv 2) rfl) (pa_cons (pmeth GN TH.cl (hr.mono (by decide)) (pv 0) (pa_cons (pv 2) pa_nil)) pa_nil)))))), ?_⟩
    refine ⟨_, rfl, z, rfl, _, rfl, ite2 (fun h => ?_) (fun h => ?_)⟩
    · have hb : ¬ (0 ≤ z ∧ z ≤ 15) := of_not h
      exact ⟨by show 1 ≤ sizeLine; decide, fun q hq => k.tell (SC.small_bad hb) hH (same_new hq) hq upd_same⟩
    have hg : 0 ≤ z ∧ z ≤ 15 := of_nn h
    obtain ⟨m, rfl⟩ : ∃ m : Nat, z = (m : Int) := ⟨z.toNat, by omega⟩
    have hm : m ≤ 15 := by omega
    have hH' := hH
    obtain ⟨⟨dx, hx⟩, hcd, hou⟩ := hH
    have B := SC.built_bt S (SC.md m)
    have M := SC.small_ok S (SC.md m)
    have eo := SC.small_outs B S.outs
    have tl := M.tlen
    have ml := M.olen
    have mf := M.few
    rw [made_eq] at tl ml mf
    refine ⟨_, rfl, x, C, dx, _, _, rfl, hx, TH.cl, TH.nL, hf_lines _ _ _, _, rfl, x, C, dx, _, _, rfl, hx, TH.cl, TH.nO, hf_outs _ _ _, _, rfl, pl, po, m, st.inputs, st.code, st.outs, rfl, hm, hcd, S.ord, S.few, hou, S.olen, S.outs, fun H1 q s1 hq => ?_⟩
    have hqa := hq.made
    obtain ⟨dq, ql, qw, h1, h2, h3, h4⟩ := hq
    refine ⟨_, rfl, q, CM, dq, _, _, rfl, h1, TM.cl, TM.nL, mf_lines _ _, _, rfl, x, dx, _, rfl, s1 _ _ hx, rfl, _, rfl, x, q, pl, po, st, _, _, rfl, hH'.same s1, hqa, (fun o ho => by rw [List.length_map, tl]; exact S.outs o ho), S.olen, fun H2 o s2 fo ho => ?_⟩
    refine ⟨ql, o, _, _, rfl, h2.same s2, by omega, ho, by rw [List.length_map]; have := S.olen; omega, fun H3 r s3 fr hr => ?_⟩
    refine k.tell (SC.small_ok' hg) hH' (s1.trans (s2.trans s3)) ((s1.trans s2).free fr) ?_
    rw [hr, ← eo]
    show some (HO.lst ((rowOf (Vagral.small (SC.md m) st.code st.outs).code ++ (((Vagral.small (SC.md m) st.code st.outs).outs.map fun (n : Nat) => (n : Int)).length : Int) :: (Vagral.small (SC.md m) st.code st.outs).outs.map fun (n : Nat) => (n : Int)).map V.int)) = _
    rw [List.length_map]
    rfl
theorem scTMap : FnScope ["self", "mode", "made"] ["self", "mode"] (defScope sTMap) := ⟨rfl, rfl, rfl, by decide +kernel, rfl, by decide +kernel, by decide +kernel⟩
theorem ok_tMap {C CM fI : Addr} {fdI : FuncData} (T : Glo K mg) (T3 : Glo3 mg) (TH : THold K mg C) (TM : TMade K mg CM fI fdI) (D : Mx K C "tell_map" "Holder.tell_map" sTMap ["self", "mode"]) (C0 : Fk P w K mg base 1 "is_mode" ["mode"] spIsMode) (C1 : Fk P w K mg base 10 "make" ["lines", "outs", "mode"] (spMake CM)) :
    Fm P w K mg base 11 C "tell_map" ["self", "mode"] (spMode C .map) := by
  refine D.ok scTMap (fun vs H Q E h => ?_) (fun f cdv A outer s H vs Q E hr h => ?_)
  · obtain ⟨x, pl, po, s, z, rfl, _⟩ := h
    rfl
  · obtain ⟨x, pl, po, st, z, rfl, hH, S, k⟩ := h
    refine ⟨_, pss_cons (ps_if (pt_not (pt_val (pcall C0 (hr.mono (by decide)) (pa_cons (pv 1) pa_nil)))) (pss_one (ps_ret (pe_lst (pa_cons (pgi T3.wN) pa_nil)))) pss_nil)
      (pss_cons (ps_set (i := 2) scTMap.nd rfl (Or.inl rfl) (pcall C1 hr (pa_cons (pe_fld (pv 0) rfl) (pa_cons (pe_fld (pv 0) rfl) (pa_cons (pv 1) pa_nil)))))
      (pss_one (ps_ret (pe_op op_cat (pe_lst (pa_cons (pe_callB call_len_seq rfl T.nLen PySem.boot_len (pa_cons (pe_fld (pv 2) rfl) pa_nil)) pa_nil)) (pe_fld (pv 2) rfl))))), ?_⟩
    refine ⟨_, rfl, z, rfl, _, rfl, ite2 (fun h => ?_) (fun h => ?_)⟩
    · have hb : ¬ (0 ≤ z ∧ z ≤ 15) := of_not h
      exact ⟨by show 1 ≤ sizeLine; decide, fun q hq => k.tell (SC.map_bad hb) hH (same_new hq) hq upd_same⟩
    have hg : 0 ≤ z ∧ z ≤ 15 := of_nn h
    obtain ⟨m, rfl⟩ : ∃ m : Nat, z = (m : Int) := ⟨z.toNat, by omega⟩
    have hm : m ≤ 15 := by omega
    have hH' := hH
    obtain ⟨⟨dx, hx⟩, hcd, hou⟩ := hH
    have tl := (SC.small_ok S (SC.md m)).tlen
    have hfew := S.few
    rw [made_eq] at tl
    refine ⟨_, rfl, x, C, dx, _, _, rfl, hx, TH.cl, TH.nL, hf_lines _ _ _, _, rfl, x, C, dx, _, _, rfl, hx, TH.cl, TH.nO, hf_outs _ _ _, _, rfl, pl, po, m, st.inputs, st.code, st.outs, rfl, hm, hcd, S.ord, S.few, hou, S.olen, S.outs, fun H1 q s1 hq => ?_⟩
    obtain ⟨dq, ql, qw, h1, h2, h3, h4⟩ := hq
    refine ⟨_, rfl, q, CM, dq, _, _, rfl, h1, TM.cl, TM.nW, mf_went _ _, qw, _, rfl, .inl (SqL.of h3), by show 1 ≤ sizeLine; decide, fun a fa => ?_⟩
    have s2 := same_new (o := .lst [.int (((Vagral.small (SC.md m) st.code st.outs).to.map Vagral.optional).map V.int).length]) fa
    refine ⟨_, rfl, q, CM, dq, _, _, rfl, s2 _ _ h1, TM.cl, TM.nW, mf_went _ _, a, qw, _, _, rfl, rfl, upd_same, s2 _ _ h3, ?_, fun r fr => ?_⟩
    · rw [List.length_map, List.length_map, tl]
      exact Nat.le_trans (show 1 + st.code.length ≤ 100 by omega) (by decide)
    · refine k.tell (SC.map_ok hg) hH' (s1.trans (s2.trans (same_new fr))) ((s1.trans s2).free fr) ?_
      rw [upd_same, List.length_map, List.length_map]
      rfl
theorem scTCounts : FnScope ["self", "mode", "made"] ["self", "mode"] (defScope sTCounts) := ⟨rfl, rfl, rfl, by decide +kernel, rfl, by decide +kernel, by decide +kernel⟩
theorem ok_tCounts {C CM fI : Addr} {fdI : FuncData} (T : Glo K mg) (T3 : Glo3 mg) (TH : THold K mg C) (TM : TMade K mg CM fI fdI) (D : Mx K C "tell_counts" "Holder.tell_counts" sTCounts ["self", "mode"]) (C0 : Fk P w K mg base 1 "is_mode" ["mode"] spIsMode) (C1 : Fk P w K mg base 10 "make" ["lines", "outs", "mode"] (spMake CM))
    (C3 : Fk P w K mg base 4 "three_counts" ["lines"] spCnt) : Fm P w K mg base 11 C "tell_counts" ["self", "mode"] (spMode C .counts) := by
  refine D.ok scTCounts (fun vs H Q E h => ?_) (fun f cdv A outer s H vs Q E hr h => ?_)
  · obtain ⟨x, pl, po, s, z, rfl, _⟩ := h
    rfl
  · obtain ⟨x, pl, po, st, z, rfl, hH, S, k⟩ := h
    refine ⟨_, pss_cons (ps_if (pt_not (pt_val (pcall C0 (hr.mono (by decide)) (pa_cons (pv 1) pa_nil)))) (pss_one (ps_ret (pe_lst (pa_cons (pgi T3.wN) pa_nil)))) pss_nil)
      (pss_cons (ps_set (i := 2) scTCounts.nd rfl (Or.inl rfl) (pcall C1 hr (pa_cons (pe_fld (pv 0) rfl) (pa_cons (pe_fld (pv 0) rfl) (pa_cons (pv 1) pa_nil)))))
      (pss_one (ps_ret (pe_op op_cat (pcall C3 (hr.mono (by decide)) (pa_cons (pe_fld (pv 0) rfl) pa_nil)) (pcall C3 (hr.mono (by decide)) (pa_cons (pe_fld (pv 2) rfl) pa_nil)))))), ?_⟩
    refine ⟨_, rfl, z, rfl, _, rfl, ite2 (fun h => ?_) (fun h => ?_)⟩
    · have hb : ¬ (0 ≤ z ∧ z ≤ 15) := of_not h
      exact ⟨by show 1 ≤ sizeLine; decide, fun q hq => k.tell (SC.counts_bad hb) hH (same_new hq) hq upd_same⟩
    have hg : 0 ≤ z ∧ z ≤ 15 := of_nn h
    obtain ⟨m, rfl⟩ : ∃ m : Nat, z = (m : Int) := ⟨z.toNat, by omega⟩
    have hm : m ≤ 15 := by omega
    have hH' := hH
    obtain ⟨⟨dx, hx⟩, hcd, hou⟩ := hH
    have M := SC.small_ok S (SC.md m)
    have hfew := S.few
    have mf := M.few
    have mo := M.ord.low
    rw [made_eq] at mf mo
    refine ⟨_, rfl, x, C, dx, _, _, rfl, hx, TH.cl, TH.nL, hf_lines _ _ _, _, rfl, x, C, dx, _, _, rfl, hx, TH.cl, TH.nO, hf_outs _ _ _, _, rfl, pl, po, m, st.inputs, st.code, st.outs, rfl, hm, hcd, S.ord, S.few, hou, S.olen, S.outs, fun H1 q s1 hq => ?_⟩
    obtain ⟨dq, ql, qw, h1, h2, h3, h4⟩ := hq
    refine ⟨_, rfl, x, C, dx, _, _, rfl, s1 _ _ hx, TH.cl, TH.nL, hf_lines _ _ _, pl, st.code, rfl, hcd.same s1, by omega, S.ord.low, fun H2 a s2 fa ha => ?_⟩
    refine ⟨_, rfl, q, CM, dq, _, _, rfl, s2 _ _ h1, TM.cl, TM.nL, mf_lines _ _, ql, _, rfl, h2.same s2, by omega, mo, fun H3 b s3 fb hb => ?_⟩
    refine ⟨a, b, _, _, rfl, rfl, s3 _ _ ha, hb, by show 6 ≤ sizeLine; decide, fun r fr => ?_⟩
    refine k.tell (SC.counts_ok hg) hH' (s1.trans (s2.trans (s3.trans (same_new fr)))) ((s1.trans (s2.trans s3)).free fr) ?_
    rw [upd_same]
    rfl
/-! ### hold_made -/
theorem scHoldMade : FnScope ["self", "mode", "made"] ["self", "mode"] (defScope sHoldMade) := ⟨rfl, rfl, rfl, by decide +kernel, rfl, by decide +kernel, by decide +kernel⟩
theorem hf_mf {C CM dx dq : Addr} {i l o u v : V} (h : HO.ins C dx (hf i l o) = HO.ins CM dq (mf u v)) : False := by
  have e : hf i l o = mf u v := by injection h
  have e2 := congrArg List.length e
  exact absurd (show (3 : Nat) = 2 from e2) (by decide)
theorem ok_holdMade {C CM fI : Addr} {fdI : FuncData} (T : Glo K mg) (T3 : Glo3 mg) (TH : THold K mg C) (TM : TMade K mg CM fI fdI) (D : Mx K C "hold_made" "Holder.hold_made" sHoldMade ["self", "mode"]) (C0 : Fk P w K mg base 1 "is_mode" ["mode"] spIsMode) (C1 : Fk P w K mg base 10 "make" ["lines", "outs", "mode"] (spMake CM))
    (GN : Fm P w K mg base 1 C "new_outs" ["self", "made"] (spNewOuts C CM)) : Fm P w K mg base 11 C "hold_made" ["self", "mode"] (spMode C .take) := by
  refine D.ok scHoldMade (fun vs H Q E h => ?_) (fun f cdv A outer s H vs Q E hr h => ?_)
  · obtain ⟨x, pl, po, s, z, rfl, _⟩ := h
    rfl
  · obtain ⟨x, pl, po, st, z, rfl, hH, S, k⟩ := h
    refine ⟨_, pss_cons (ps_if (pt_not (pt_val (pcall C0 (hr.mono (by decide)) (pa_cons (pv 1) pa_nil)))) (pss_one (ps_ret (pe_lst (pa_cons (pgi T3.wN) pa_nil)))) pss_nil)
      (pss_cons (ps_set (i := 2) scHoldMade.nd rfl (Or.inl rfl) (pcall C1 hr (pa_cons (pe_fld (pv 0) rfl) (pa_cons (pe_fld (pv 0) rfl) (pa_cons (pv 1) pa_nil)))))
      (pss_cons (ps_fld (pv 0) (pmeth GN TH.cl (hr.mono (by decide)) (pv 0) (pa_cons (pv 2) pa_nil)) rfl)
      (pss_cons (ps_fld (pv 0) (pe_fld (pv 2) rfl) rfl)
      (pss_one (ps_ret (pe_lst (pa_cons (pe_callB call_len_seq rfl T.nLen PySem.boot_len (pa_cons (pe_fld (pv 0) rfl) pa_nil)) pa_nil))))))), ?_⟩
    refine ⟨_, rfl, z, rfl, _, rfl, ite2 (fun h => ?_) (fun h => ?_)⟩
    · have hb : ¬ (0 ≤ z ∧ z ≤ 15) := of_not h
      exact ⟨by show 1 ≤ sizeLine; decide, fun q hq => k.tell (SC.take_bad hb) hH (same_new hq) hq upd_same⟩
    have hg : 0 ≤ z ∧ z ≤ 15 := of_nn h
    obtain ⟨m, rfl⟩ : ∃ m : Nat, z = (m : Int) := ⟨z.toNat, by omega⟩
    have hm : m ≤ 15 := by omega
    have hH' := hH
    obtain ⟨⟨dx, hx⟩, hcd, hou⟩ := hH
    have B := SC.built_bt S (SC.md m)
    have M := SC.small_ok S (SC.md m)
    have eo := SC.small_outs B S.outs
    have tl := M.tlen
    rw [made_eq] at tl
    have er := SC.take_ok (s := st) hg
    rw [er] at k
    refine ⟨_, rfl, x, C, dx, _, _, rfl, hx, TH.cl, TH.nL, hf_lines _ _ _, _, rfl, x, C, dx, _, _, rfl, hx, TH.cl, TH.nO, hf_outs _ _ _, _, rfl, pl, po, m, st.inputs, st.code, st.outs, rfl, hm, hcd, S.ord, S.few, hou, S.olen, S.outs, fun H1 q s1 hq => ?_⟩
    have hqa := hq.made
    obtain ⟨dq, ql, qw, h1, h2, h3, h4⟩ := hq
    refine ⟨_, rfl, x, dx, _, rfl, s1 _ _ hx, rfl, _, rfl, x, q, pl, po, st, _, _, rfl, hH'.same s1, hqa, (fun o ho => by rw [List.length_map, tl]; exact S.outs o ho), S.olen, fun H2 o s2 fo ho => ?_⟩
    have S2 := s1.trans s2
    have hx2 := S2 _ _ hx
    have hq2 := s2 _ _ h1
    have nqx : q ≠ x := fun e => by
      rw [e, hx2] at hq2
      exact hf_mf (Option.some.inj hq2)
    have nox : o ≠ x := ne_of ho hx2 (by intro z; cases z)
    refine ⟨_, rfl, x, C, dx, _, rfl, hx2, TH.cl, TH.nO, (by show 3 < 1000; decide), ?_⟩
    refine ⟨_, rfl, q, CM, dq, _, _, rfl, by rw [upd_ne nqx]; exact hq2, TM.cl, TM.nL, mf_lines _ _, _, rfl, x, C, dx, hf (.int (st.inputs : Nat)) (.ref pl) (.ref o), rfl, upd_same, TH.cl, TH.nL, (by show 3 < 1000; decide), ?_⟩
    have b4 : But x H2 (upd (upd H2 x (.ins C dx (hf (.int (st.inputs : Nat)) (.ref pl) (.ref o)))) x (.ins C dx (hf (.int (st.inputs : Nat)) (.ref ql) (.ref o)))) := but_upd.trans but_upd
    have x4 : (upd (upd H2 x (.ins C dx (hf (.int (st.inputs : Nat)) (.ref pl) (.ref o)))) x (.ins C dx (hf (.int (st.inputs : Nat)) (.ref ql) (.ref o)))) x = some (.ins C dx (hf (.int (st.inputs : Nat)) (.ref ql) (.ref o))) := upd_same
    generalize hH4 : upd (upd H2 x (.ins C dx (hf (.int (st.inputs : Nat)) (.ref pl) (.ref o)))) x (.ins C dx (hf (.int (st.inputs : Nat)) (.ref ql) (.ref o))) = H4 at b4 x4
    rw [show upd (upd H2 x (.ins C dx (putF "outs" (.ref o) (hf (.int (st.inputs : Nat)) (.ref pl) (.ref po))))) x (.ins C dx (putF "lines" (.ref ql) (hf (.int (st.inputs : Nat)) (.ref pl) (.ref o)))) = H4 from hH4]
    have hcq := (h2.same s2).but hx2 b4
    obtain ⟨as, hql4, hls4⟩ := hcq
    refine ⟨_, rfl, x, C, dx, _, _, rfl, x4, TH.cl, TH.nL, hf_lines _ _ _, ql, _, rfl, .inl (SqL.of hql4), by show 1 ≤ sizeLine; decide, fun r fr => ?_⟩
    have sr := same_new (o := .lst [.int (as.map V.ref).length]) fr
    refine k _ r ql o ((But.of S2).trans (b4.trans (But.of sr))) ⟨⟨dx, sr _ _ x4⟩, ⟨as, sr _ _ hql4, hls4.same sr⟩, ?_⟩ (.inr h4) (.inr (s1.free fo)) (S2.free (b4.free x4 fr)) ?_
    · refine sr _ _ (b4 _ _ ?_ nox)
      rw [ho, ← eo, ← nats_eq]
      rfl
    · rw [upd_same, List.length_map, hls4.len]
      rfl
end
end SD
set_option maxHeartbeats 1000000
namespace SD
open PySem PySem.Spec PyProof.Rows L2
open Vagraa (Frac frac zero one isZero weight)
open VagraLine (Line)
open Vagral (Mode)
section
variable {P : Program} {w : World} {K : PySem.W.Frag} {mg : Str → Option Value} {base : Heap}
/-! ### tell_alike -/
def spAlike (C : Addr) : Sp := fun vs H Q _ => ∃ (x pl po : Addr) (s : HSt) (z i j : Int), vs = [.ref x, .int z, .int i, .int j] ∧ HoldAt C H x s pl po ∧ SC.SOk s ∧ Post C x pl po H (SC.res s (.alike z i j)) Q
theorem scTAlike : FnScope ["self", "mode", "first", "second", "went"] ["self", "mode", "first", "second"] (defScope sTAlike) := ⟨rfl, rfl, rfl, by decide +kernel, rfl, by decide +kernel, by decide +kernel⟩
theorem ok_tAlike {C CM fI : Addr} {fdI : FuncData} (T : Glo K mg) (T3 : Glo3 mg) (TH : THold K mg C) (TM : TMade K mg CM fI fdI) (D : Mx K C "tell_alike" "Holder.tell_alike" sTAlike ["self", "mode", "first", "second"]) (C0 : Fk P w K mg base 1 "is_mode" ["mode"] spIsMode) (C1 : Fk P w K mg base 9 "lines_anew" ["lines", "mode"] (spAnew CM))
    (GL : Fm P w K mg base 1 C "is_line" ["self", "number"] (spIsLine C)) : Fm P w K mg base 11 C "tell_alike" ["self", "mode", "first", "second"] (spAlike C) := by
  refine D.ok scTAlike (fun vs H Q E h => ?_) (fun f cdv A outer s H vs Q E hr h => ?_)
  · obtain ⟨x, pl, po, s, z, i, j, rfl, _⟩ := h
    rfl
  · obtain ⟨x, pl, po, st, z, i, j, rfl, hH, S, k⟩ := h
    refine ⟨_, pss_cons (ps_if (PW.pt (pw_or (pt_not (pt_val (pcall C0 (hr.mono (by decide)) (pa_cons (pv 1) pa_nil)))) (pw_or (pt_not (pt_val (pmeth GL TH.cl (hr.mono (by decide)) (pv 0) (pa_cons (pv 2) pa_nil)))) (pw_or1 (pt_not (pt_val (pmeth GL TH.cl (hr.mono (by decide)) (pv 0) (pa_cons (pv 3) pa_nil)))))))) (pss_one (ps_ret (pe_lst (pa_cons (pgi T3.wN) pa_nil)))) pss_nil)
      (pss_cons (ps_set (i := 4) scTAlike.nd rfl (Or.inl rfl) (pe_fld (pcall C1 (hr.mono (by decide)) (pa_cons (pe_fld (pv 0) rfl) (pa_cons (pv 1) pa_nil))) rfl))
      (pss_one (ps_ret (pe_lst (pa_cons (pe_ifExp (pt_cmpR op_eq (pe_ix ix_list (pv 4) (pv 2) (fun _ _ => rfl)) (pe_ix ix_list (pv 4) (pv 3) (fun _ _ => rfl)) (nomark _)) pe_int pe_int) pa_nil))))), ?_⟩
    have no : ¬ ((0 ≤ z ∧ z ≤ 15) ∧ (0 ≤ i ∧ i < st.code.length) ∧ (0 ≤ j ∧ j < st.code.length)) → (1 ≤ sizeLine ∧ ∀ q, H q = none → Q (.ref q) (upd H q (.lst [.int (-1)]))) := fun e => ⟨by decide, fun q hq => k.tell (SC.alike_bad e) hH (same_new hq) hq upd_same⟩
    have hH' := hH
    obtain ⟨⟨dx, hx⟩, hcd, hou⟩ := hH
    refine ⟨_, rfl, z, rfl, _, rfl, ite2 (fun h => iteT (no fun q => of_not h q.1)) (fun h1 => ⟨_, rfl, x, dx, _, rfl, hx, rfl, _, rfl, x, pl, po, st, i, rfl, hH', _, rfl, ite2 (fun h => iteT (no fun q => of_not h q.2.1)) (fun h2 => ⟨_, rfl, x, dx, _, rfl, hx, rfl, _, rfl, x, pl, po, st, j, rfl, hH', _, rfl, ite2 (fun h => no fun q => of_not h q.2.2) (fun h3 => ?_)⟩)⟩)⟩
    have g1 := of_nn h1
    have g2 := of_nn h2
    have g3 := of_nn h3
    have er := SC.alike_ok (s := st) g1 g2 g3
    obtain ⟨m, rfl⟩ : ∃ m : Nat, z = (m : Int) := ⟨z.toNat, by omega⟩
    obtain ⟨a, rfl⟩ : ∃ a : Nat, i = (a : Int) := ⟨i.toNat, by omega⟩
    obtain ⟨b, rfl⟩ : ∃ b : Nat, j = (b : Int) := ⟨j.toNat, by omega⟩
    have B := SC.built_bt S (SC.md m)
    have ga := (SC.to_get B (show a < st.code.length by omega)).1
    have gb := (SC.to_get B (show b < st.code.length by omega)).1
    refine ⟨_, rfl, x, C, dx, _, _, rfl, hx, TH.cl, TH.nL, hf_lines _ _ _, _, rfl, pl, m, st.inputs, st.code, rfl, by omega, hcd, S.ord, S.few, fun H1 q s1 hq => ?_⟩
    obtain ⟨dq, ql, qw, q1, q2, q3, q4⟩ := hq
    have gg : ∀ {u : Nat} {v : Nat}, (Vagral.built (SC.md m) st.code).to[u]? = some v → ((zsOf (Vagral.built (SC.md m) st.code).to).map V.int)[u]? = some (V.int (v : Int)) := fun {u v} e => by
      unfold zsOf
      rw [List.getElem?_map, List.getElem?_map, e]
      rfl
    have er' : SC.res st (.alike (m : Int) (a : Int) (b : Int)) = (st, [if (Vagral.built (SC.md m) st.code).to.getD a 0 = (Vagral.built (SC.md m) st.code).to.getD b 0 then 1 else 0]) := er
    refine ⟨q, CM, dq, _, _, rfl, q1, TM.cl, TM.nW, mf_went _ _, ?_⟩
    refine ⟨_, rfl, _, rfl, qw, _, _, _, rfl, rfl, SqL.of q3, atI_nat (j := a) (gg ga), _, rfl, _, rfl, qw, _, _, _, rfl, rfl, SqL.of q3, atI_nat (j := b) (gg gb), rfl, _, rfl, ite2 (fun h => ?_) (fun h => ?_)⟩
    · have e : (Vagral.built (SC.md m) st.code).to.getD a 0 = (Vagral.built (SC.md m) st.code).to.getD b 0 := by have := int_eq h; omega
      rw [if_pos e] at er'
      exact ⟨by show 1 ≤ sizeLine; decide, fun r fr => k.tell er' hH' (s1.trans (same_new fr)) (s1.free fr) upd_same⟩
    · have e : ¬ (Vagral.built (SC.md m) st.code).to.getD a 0 = (Vagral.built (SC.md m) st.code).to.getD b 0 := fun q => h (by rw [dec_int]; exact decide_eq_true (by rw [q]))
      rw [if_neg e] at er'
      exact ⟨by show 1 ≤ sizeLine; decide, fun r fr => k.tell er' hH' (s1.trans (same_new fr)) (s1.free fr) upd_same⟩
/-! ### tell_lines -/
def spTLines (C : Addr) : Sp := fun vs H Q _ => ∃ (x pl po : Addr) (s : HSt), vs = [.ref x] ∧ HoldAt C H x s pl po ∧ SC.SOk s ∧ Post C x pl po H (SC.res s .lines) Q
theorem scTLines : FnScope ["self"] ["self"] (defScope sTLines) := ⟨rfl, rfl, rfl, by decide +kernel, rfl, by decide +kernel, by decide +kernel⟩
theorem ok_tLines {C : Addr} (T : Glo K mg) (TH : THold K mg C) (D : Mx K C "tell_lines" "Holder.tell_lines" sTLines ["self"]) (C2 : Fk P w K mg base 2 "code_row" ["lines", "outs"] spCodeRow) : Fm P w K mg base 11 C "tell_lines" ["self"] (spTLines C) := by
  refine D.ok scTLines (fun vs H Q E h => ?_) (fun f cdv A outer s H vs Q E hr h => ?_)
  · obtain ⟨x, pl, po, s, rfl, _⟩ := h
    rfl
  · obtain ⟨x, pl, po, st, rfl, hH, S, k⟩ := h
    refine ⟨_, pss_one (ps_ret (pcall C2 (hr.mono (by decide)) (pa_cons (pe_fld (pv 0) rfl) (pa_cons (pe_fld (pv 0) rfl) pa_nil)))), ?_⟩
    have hH' := hH
    obtain ⟨⟨dx, hx⟩, hcd, hou⟩ := hH
    have hfew := S.few
    have hol := S.olen
    refine ⟨_, rfl, x, C, dx, _, _, rfl, hx, TH.cl, TH.nL, hf_lines _ _ _, _, rfl, x, C, dx, _, _, rfl, hx, TH.cl, TH.nO, hf_outs _ _ _, pl, po, st.code, zsOf st.outs, rfl, hcd, by omega, by rw [hou, nats_eq]; rfl, by unfold zsOf; rw [List.length_map]; omega, fun H1 r s1 fr hr => ?_⟩
    refine k.tell (SC.lines_ok st) hH' s1 fr ?_
    rw [hr]
    show some (HO.lst ((rowOf st.code ++ ((zsOf st.outs).length : Int) :: zsOf st.outs).map V.int)) = _
    unfold zsOf
    rw [List.length_map]
    rfl
/-! ### tell_run -/
def spTRun (K : PySem.W.Frag) (C : Addr) : Sp := fun vs H Q _ => ∃ (x pl po p : Addr) (s : HSt) (ns : List Int), vs = [.ref x, .ref p] ∧ HoldAt C H x s pl po ∧ SC.SOk s ∧ SqL K H p (ns.map V.int) ∧ (∀ z ∈ ns, z.natAbs ≤ 10 ^ 18) ∧ ns.length ≤ 400 ∧ Post C x pl po H (SC.res s (.run ns)) Q
theorem scTRun : FnScope ["self", "row", "point", "done", "answer", "out"] ["self", "row"] (defScope sTRun) := ⟨rfl, rfl, rfl, by decide +kernel, rfl, by decide +kernel, by decide +kernel⟩
theorem fracs_snoc {os : List Nat} {vs : List Frac} {i o : Nat} (h : os[i]? = some o) : VagraLine.fracsTold ((os.take (i + 1)).map fun u => VagraLine.at_ vs u) = VagraLine.fracsTold ((os.take i).map fun u => VagraLine.at_ vs u) ++ [(VagraLine.at_ vs o).num, ((VagraLine.at_ vs o).den : Int)] := by
  rw [SC.take_snoc h, List.map_append]
  unfold VagraLine.fracsTold
  rw [List.flatMap_append]
  simp
theorem fracs_lenT (fs : List Frac) : (VagraLine.fracsTold fs).length = 2 * fs.length := by
  unfold VagraLine.fracsTold
  induction fs with
  | nil => rfl
  | cons f fs ih => rw [List.flatMap_cons, List.length_append, ih]; simp; omega
theorem ok_tRun {C CR fI : Addr} {fdI : FuncData} (T : Glo K mg) (T2 : Glo2 mg) (T3 : Glo3 mg) (TH : THold K mg C) (TR : TRun K mg CR fI fdI) (D : Mx K C "tell_run" "Holder.tell_run" sTRun ["self", "row"]) (C1 : Fk P w K mg base 3 "read_point" ["row", "inputs"] (spPoint K)) (C2 : Fk P w K mg base 7 "run_lines" ["lines", "point"] (spRun CR)) :
    Fm P w K mg base 11 C "tell_run" ["self", "row"] (spTRun K C) := by
  refine D.ok scTRun (fun vs H Q E h => ?_) (fun f cdv A outer s H vs Q E hr h => ?_)
  · obtain ⟨x, pl, po, p, s, ns, rfl, _⟩ := h
    rfl
  · obtain ⟨x, pl, po, p, st, ns, rfl, hH, S, hp, hB, hlen, k⟩ := h
    refine ⟨_, pss_cons (ps_set (i := 2) scTRun.nd rfl (Or.inl rfl) (pcall C1 (hr.mono (by decide)) (pa_cons (pv 1) (pa_cons (pe_fld (pv 0) rfl) pa_nil))))
      (pss_cons (ps_if (pt_cmpR op_isN (pv 2) pe_non (nomark _)) (pss_one (ps_ret (pe_lst (pa_cons (pgi T3.wL) pa_nil)))) pss_nil)
      (pss_cons (ps_set (i := 3) scTRun.nd rfl (Or.inl rfl) (pcall C2 (hr.mono (by decide)) (pa_cons (pe_fld (pv 0) rfl) (pa_cons (pv 2) pa_nil))))
      (pss_cons (ps_if (pt_cmpR op_ne (pe_fld (pv 3) rfl) (pgi T2.noF) (nomark _)) (pss_one (ps_ret (pe_lst (pa_cons pe_int (pa_cons (pe_callB call_len_seq rfl T.nLen PySem.boot_len (pa_cons (pe_fld (pv 3) rfl) pa_nil)) (pa_cons (pe_fld (pv 3) rfl) pa_nil)))))) pss_nil)
      (pss_cons (ps_set (i := 4) scTRun.nd rfl (Or.inl rfl) (pe_lst (pa_cons pe_int (pa_cons (pe_callB call_len_seq rfl T.nLen PySem.boot_len (pa_cons (pe_fld (pv 0) rfl) pa_nil)) pa_nil))))
      (pss_cons (ps_for PassesOwn.never rfl (pi_list (pe_fld (pv 0) rfl)) (pg_name (i := 5) scTRun.nd rfl (Or.inl rfl))
        (pss_one (ps_expr (pe_bm PySem.F.plainAttrs_list PySem.F.slot_list_extend PySem.F.type_list_extend mt_extT (pv 4) (pa_cons (pe_ix ix_list (pe_fld (pv 3) rfl) (pv 5) (fun _ _ => rfl)) pa_nil)))))
      (pss_one (ps_ret (pv 4)))))))), ?_⟩
    have hH' := hH
    obtain ⟨⟨dx, hx⟩, hcd, hou⟩ := hH
    refine ⟨_, rfl, _, rfl, x, C, dx, _, _, rfl, hx, TH.cl, TH.nI, hf_inputs _ _ _, p, ns, st.inputs, rfl, hp, hB, hlen, ?_⟩
    cases erp : SC.rp st.inputs ns with
    | none => exact fun H1 s1 => ⟨_, rfl, rfl, _, rfl, iteT ⟨by show 1 ≤ sizeLine; decide, fun q hq => k.tell (SC.run_bad erp) hH' (s1.trans (same_new hq)) (s1.free hq) upd_same⟩⟩
    | some ps =>
      obtain ⟨hpl, hpf⟩ := SC.rp_fit hB erp
      have er := SC.run_ok erp
      refine fun H1 pp bs s1 hpp hps => ⟨_, rfl, rfl, _, rfl, ite2 (fun h => absurd (of_decide_eq_true h) (by intro z; cases z)) (fun _ => ?_)⟩
      refine ⟨_, rfl, x, C, dx, _, _, rfl, s1 _ _ hx, TH.cl, TH.nL, hf_lines _ _ _, _, rfl, pl, pp, st.code, bs, ps, rfl, hcd.same s1, by rw [hpl]; exact S.ord, S.few, hpp, hps, hpf, fun H2 z ws kk s2 hz hres => ?_⟩
      obtain ⟨dz, pw, es, z1, z2, z3⟩ := hz
      have S2 := s1.trans s2
      unfold Vagral.State.ran at er
      refine ⟨_, rfl, z, CR, dz, _, _, rfl, z1, TR.cl, TR.nF, rf_fault _ _, rfl, _, rfl, ?_⟩
      rw [dec_int]
      cases erun : VagraLine.run (some Vagral.HEAVY) ps st.code with
      | error e =>
        rw [erun] at er hres
        obtain ⟨r1, r2, r3⟩ := hres
        refine ite2 (fun _ => ?_) (fun h => absurd (by rw [decide_eq_false r3]; rfl) h)
        refine ⟨_, rfl, z, CR, dz, _, _, rfl, z1, TR.cl, TR.nW, rf_work _ _, pw, _, rfl, .inl (SqL.of z2), _, rfl, z, CR, dz, _, _, rfl, z1, TR.cl, TR.nF, rf_fault _ _, by show 3 ≤ sizeLine; decide, fun q fq => ?_⟩
        refine k.tell er hH' (S2.trans (same_new fq)) (S2.free fq) ?_
        rw [upd_same, List.length_map, z3.len, r1, r2]
        rfl
      | ok vs =>
        rw [erun] at er hres
        obtain ⟨r1, r2, r3⟩ := hres
        subst r1 r2
        refine ite2 (fun h => absurd h (by decide)) (fun _ => ?_)
        refine ⟨_, rfl, x, C, dx, _, _, rfl, S2 _ _ hx, TH.cl, TH.nO, hf_outs _ _ _, po, _, rfl, .inl (SqL.of (S2 _ _ hou)), by show 2 ≤ sizeLine; decide, fun a fa => ?_⟩
        have sa := same_new (o := .lst [.int 0, .int (nats st.outs).length]) fa
        refine ⟨_, rfl, x, C, dx, _, _, rfl, sa _ _ (S2 _ _ hx), TH.cl, TH.nO, hf_outs _ _ _, po, rfl, ⟨_, SqL.of (sa _ _ (S2 _ _ hou))⟩, for_list (xs := nats st.outs) (fun i σ Hc => ∃ (y : Option V), σ = [some (.ref x), some (.ref p), some (.ref pp), some (.ref z), some (.ref a), y] ∧ Gw H2 Hc a ((0 :: (st.outs.length : Int) :: VagraLine.fracsTold ((st.outs.take i).map fun u => VagraLine.at_ ws u)).map V.int))
          ⟨none, rfl, ?_⟩ (fun i σ Hc _ ⟨y, _, g⟩ => SqL.of (g.s _ _ (S2 _ _ hou))) ?_ ?_⟩
        · have := Gw.new (xs := [.int 0, .int (nats st.outs).length]) fa
          rw [nats_len] at this ⊢
          exact this
        · rintro i v σ Hc hv ⟨y, rfl, g⟩
          obtain ⟨o, ho1, rfl⟩ := nats_of hv
          have ho : o < ws.length := by rw [r3]; exact S.outs o (List.mem_of_getElem? ho1)
          have hi : i < st.outs.length := (List.getElem?_eq_some_iff.mp ho1).1
          have hol := S.olen
          obtain ⟨w1, w2⟩ := frs_get (z3.same g.s) ho
          refine ⟨_, rfl, .inl ⟨rfl, _, SqL.of g.l⟩, _, rfl, z, CR, dz, _, _, rfl, g.s _ _ z1, TR.cl, TR.nW, rf_work _ _, _, rfl, pw, _, _, _, rfl, rfl, SqL.of (g.s _ _ z2), atI_nat (j := o) w1, a, _, _, _, rfl, rfl, g.l, SqT.of w2, ?_, _, rfl, ?_⟩
          · rw [List.length_map, List.length_cons, List.length_cons, fracs_lenT, List.length_map, List.length_take]
            exact Nat.le_trans (show 2 * min i st.outs.length + 1 + 1 + 2 ≤ 100 by omega) (by decide)
          · rw [fracs_snoc ho1]
            have := g.put (((0 :: (st.outs.length : Int) :: VagraLine.fracsTold ((st.outs.take i).map fun u => VagraLine.at_ ws u)).map V.int) ++ frv (VagraLine.at_ ws o))
            have e : ((0 :: (st.outs.length : Int) :: VagraLine.fracsTold ((st.outs.take i).map fun u => VagraLine.at_ ws u)).map V.int) ++ frv (VagraLine.at_ ws o) = (0 :: (st.outs.length : Int) :: (VagraLine.fracsTold ((st.outs.take i).map fun u => VagraLine.at_ ws u) ++ [(VagraLine.at_ ws o).num, ((VagraLine.at_ ws o).den : Int)])).map V.int := by
              simp [frv]
            rw [e] at this ⊢
            exact this
        · rintro σ Hc ⟨y, rfl, g⟩
          rw [nats_len, List.take_length] at g
          exact ⟨_, rfl, k.tell er hH' (S2.trans g.s) (S2.free fa) g.l⟩
end
end SD
set_option maxHeartbeats 1000000
namespace SD
open PySem PySem.Spec PyProof.Rows L2
open Vagraa (Frac frac zero one isZero weight)
open VagraLine (Line)
open Vagral (Mode)
section
variable {P : Program} {w : World} {K : PySem.W.Frag} {mg : Str → Option Value} {base : Heap}
/-! ### desk.py: the class Reader -/
abbrev sReader : Stmt := top 88
abbrev sDInit : Stmt := inClass sReader 0
abbrev sIsDone : Stmt := inClass sReader 1
abbrev sTakeN : Stmt := inClass sReader 2
abbrev sTakeR : Stmt := inClass sReader 3
abbrev sNext : Stmt := top 89
abbrev sAnswers : Stmt := top 90
structure TRead (K : PySem.W.Frag) (mg : Str → Option Value) (C : Addr) : Prop where
  cl : Cls K C
  nN : NoAttr K C "numbers"
  nA : NoAttr K C "at"
def df (n t : V) : List (Str × V) := [(("numbers" : Str), n), ("at", t)]
theorem df_numbers (n t : V) : (df n t).lookup ("numbers" : Str) = some n := rfl
theorem df_look (n t : V) : (df n t).lookup ("at" : Str) = some t := rfl
/-- a Reader stands at rd, over the list at a, at the place i -/
def ReadAt (C : Addr) (H : Hp) (rd a : Addr) (i : Nat) : Prop := ∃ dx, H rd = some (.ins C dx (df (.ref a) (.int i)))
def spDI (C : Addr) : Sp := fun vs H Q _ => ∃ (x dx a : Addr), vs = [.ref x, .ref a] ∧ H x = some (.ins C dx []) ∧ ∀ H' : Hp, ReadAt C H' x a 0 → But x H H' → Q .non H'
theorem scDI : FnScope ["self", "numbers"] ["self", "numbers"] (defScope sDInit) := ⟨rfl, rfl, rfl, by decide +kernel, rfl, by decide +kernel, by decide +kernel⟩
theorem ok_DI {C fI : Addr} {fdI : FuncData} (T : TRead K mg C) (F : Fun K "__init__" "Reader.__init__" sDInit fI fdI) : FnOk P w K mg base CX0 1 fI fdI ["self", "numbers"] (spDI C) := by
  refine F.ok scDI (fun vs H Q E h => ?_) (fun cdv A outer s H vs Q E hr h => ?_)
  · obtain ⟨x, dx, a, rfl, _⟩ := h
    rfl
  · obtain ⟨x, dx, a, rfl, hx, k⟩ := h
    refine ⟨_, pss_cons (ps_fld (pv 0) (pv 1) rfl) (pss_one (ps_fld (pv 0) pe_int rfl)), ?_⟩
    refine ⟨_, rfl, _, rfl, x, C, dx, [], rfl, hx, T.cl, T.nN, (by show 0 < 1000; decide), ?_⟩
    refine ⟨_, rfl, x, C, dx, _, rfl, upd_same, T.cl, T.nA, (by show 1 < 1000; decide), ?_⟩
    exact k _ ⟨dx, upd_same⟩ (but_upd.trans but_upd)
def spIsDone (K : PySem.W.Frag) (C : Addr) : Sp := fun vs H Q _ => ∃ (rd a : Addr) (i : Nat) (ns : List Int), vs = [.ref rd] ∧ ReadAt C H rd a i ∧ SqL K H a (ns.map V.int) ∧ Q (.bl (decide (ns.length ≤ i))) H
theorem scIsDone : FnScope ["self"] ["self"] (defScope sIsDone) := ⟨rfl, rfl, rfl, by decide +kernel, rfl, by decide +kernel, by decide +kernel⟩
theorem ok_isDone {C : Addr} (T : Glo K mg) (TD : TRead K mg C) (D : Mx K C "is_done" "Reader.is_done" sIsDone ["self"]) : Fm P w K mg base 1 C "is_done" ["self"] (spIsDone K C) := by
  refine D.ok scIsDone (fun vs H Q E h => ?_) (fun f cdv A outer s H vs Q E hr h => ?_)
  · obtain ⟨rd, a, i, ns, rfl, _⟩ := h
    rfl
  · obtain ⟨rd, a, i, ns, rfl, ⟨dx, hx⟩, ha, k⟩ := h
    refine ⟨_, pss_one (ps_ret (pe_cmpR op_ge (pe_fld (pv 0) rfl) (pe_callB call_len_seq rfl T.nLen PySem.boot_len (pa_cons (pe_fld (pv 0) rfl) pa_nil)) (nomark _))), ?_⟩
    refine ⟨_, rfl, rd, C, dx, _, _, rfl, hx, TD.cl, TD.nA, df_look _ _, _, rfl, rd, C, dx, _, _, rfl, hx, TD.cl, TD.nN, df_numbers _ _, a, _, rfl, .inl ha, _, _, rfl, rfl, ?_⟩
    have e : decide (ns.length ≤ i) = decide ((i : Int) ≥ ((ns.map V.int).length : Int)) := by
      rw [List.length_map]
      by_cases q : ns.length ≤ i
      · rw [decide_eq_true q, decide_eq_true (show (i : Int) ≥ (ns.length : Int) by omega)]
      · rw [decide_eq_false q, decide_eq_false (show ¬ (i : Int) ≥ (ns.length : Int) by omega)]
    rw [e] at k
    exact k
def spTakeN (K : PySem.W.Frag) (C : Addr) : Sp := fun vs H Q _ => ∃ (rd a : Addr) (i : Nat) (ns : List Int) (z : Int), vs = [.ref rd] ∧ ReadAt C H rd a i ∧ SqL K H a (ns.map V.int) ∧ ns[i]? = some z ∧ ∀ H' : Hp, But rd H H' → ReadAt C H' rd a (i + 1) → Q (.int z) H'
theorem scTakeN : FnScope ["self"] ["self"] (defScope sTakeN) := ⟨rfl, rfl, rfl, by decide +kernel, rfl, by decide +kernel, by decide +kernel⟩
theorem ok_takeN {C : Addr} (T : Glo K mg) (TD : TRead K mg C) (D : Mx K C "take_number" "Reader.take_number" sTakeN ["self"]) : Fm P w K mg base 1 C "take_number" ["self"] (spTakeN K C) := by
  refine D.ok scTakeN (fun vs H Q E h => ?_) (fun f cdv A outer s H vs Q E hr h => ?_)
  · obtain ⟨rd, a, i, ns, z, rfl, _⟩ := h
    rfl
  · obtain ⟨rd, a, i, ns, z, rfl, ⟨dx, hx⟩, ha, hz, k⟩ := h
    refine ⟨_, pss_cons (ps_fldaug (pv 0) pe_int in_add) (pss_one (ps_ret (pe_ix ix_list (pe_fld (pv 0) rfl) (pe_op op_sub (pe_fld (pv 0) rfl) pe_int) (fun _ _ => rfl)))), ?_⟩
    have b1 : But rd H (upd H rd (.ins C dx (df (.ref a) (.int ((i : Int) + 1))))) := but_upd
    have x1 : (upd H rd (.ins C dx (df (.ref a) (.int ((i : Int) + 1))))) rd = some (.ins C dx (df (.ref a) (.int ((i : Int) + 1)))) := upd_same
    refine ⟨_, rfl, rd, C, dx, _, _, rfl, hx, TD.cl, TD.nA, df_look _ _, _, _, rfl, rfl, dx, _, hx, (by show 2 < 1000; decide), ?_⟩
    refine ⟨_, rfl, rd, C, dx, _, _, rfl, x1, TD.cl, TD.nN, df_numbers _ _, _, rfl, rd, C, dx, _, _, rfl, x1, TD.cl, TD.nA, df_look _ _, _, _, rfl, rfl, a, _, _, V.int z, rfl, rfl, seq_but ha hx b1, at_of (j := i) (by omega) (by rw [List.getElem?_map, hz]; rfl), ?_⟩
    exact k _ b1 ⟨dx, x1⟩
def spTakeR (K : PySem.W.Frag) (C : Addr) : Sp := fun vs H Q _ => ∃ (rd a : Addr) (i n : Nat) (ns : List Int), vs = [.ref rd] ∧ ReadAt C H rd a i ∧ SqL K H a (ns.map V.int) ∧ ns[i]? = some (n : Int) ∧ i + 1 + n ≤ ns.length ∧
  ∀ (H' : Hp) (p : Addr), But rd H H' → ReadAt C H' rd a (i + 1 + n) → H' p = some (.lst (((ns.drop (i + 1)).take n).map V.int)) → Q (.ref p) H'
theorem scTakeR : FnScope ["self", "length"] ["self"] (defScope sTakeR) := ⟨rfl, rfl, rfl, by decide +kernel, rfl, by decide +kernel, by decide +kernel⟩
theorem cut_row {ns : List Int} {i n : Nat} (h : i + n ≤ ns.length) : cutV (ns.map V.int) (some ((i : Nat) : Int)) (some ((i + n : Nat) : Int)) = ((ns.drop i).take n).map V.int := by
  unfold cutV
  rw [HT.sIx_nat, HT.sIx_nat, List.length_map, List.map_take, List.map_drop, show min i ns.length = i by omega, show min (i + n) ns.length - i = n by omega]
theorem ok_takeR {C : Addr} (T : Glo K mg) (TD : TRead K mg C) (D : Mx K C "take_row" "Reader.take_row" sTakeR ["self"]) (GN : Fm P w K mg base 1 C "take_number" ["self"] (spTakeN K C)) : Fm P w K mg base 2 C "take_row" ["self"] (spTakeR K C) := by
  refine D.ok scTakeR (fun vs H Q E h => ?_) (fun f cdv A outer s H vs Q E hr h => ?_)
  · obtain ⟨rd, a, i, n, ns, rfl, _⟩ := h
    rfl
  · obtain ⟨rd, a, i, n, ns, rfl, hR, ha, hn, hlen, k⟩ := h
    refine ⟨_, pss_cons (ps_set (i := 1) scTakeR.nd rfl (Or.inl rfl) (pmeth0 GN TD.cl hr (pv 0)))
      (pss_cons (ps_fldaug (pv 0) (pv 1) in_add)
      (pss_one (ps_ret (pe_slice sl_list (pe_fld (pv 0) rfl) (po_some (pe_op op_sub (pe_fld (pv 0) rfl) (pv 1))) (po_some (pe_fld (pv 0) rfl)))))), ?_⟩
    have hR' := hR
    obtain ⟨dx, hx⟩ := hR
    refine ⟨_, rfl, rd, dx, _, rfl, hx, rfl, rd, a, i, ns, n, rfl, hR', ha, hn, fun H1 b1 ⟨d1, x1⟩ => ?_⟩
    have ha1 := seq_but ha hx b1
    have b2 : But rd H1 (upd H1 rd (.ins C d1 (df (.ref a) (.int (((i + 1 : Nat) : Int) + n))))) := but_upd
    have x2 : (upd H1 rd (.ins C d1 (df (.ref a) (.int (((i + 1 : Nat) : Int) + n))))) rd = some (.ins C d1 (df (.ref a) (.int (((i + 1 : Nat) : Int) + n)))) := upd_same
    refine ⟨_, rfl, rd, C, d1, _, _, rfl, x1, TD.cl, TD.nA, df_look _ _, _, rfl, _, _, rfl, rfl, d1, _, x1, (by show 2 < 1000; decide), ?_⟩
    have ea : ((i + 1 : Nat) : Int) + (n : Int) = ((i + 1 + n : Nat) : Int) := by omega
    have es : ((i + 1 : Nat) : Int) + (n : Int) - (n : Int) = ((i + 1 : Nat) : Int) := by omega
    refine ⟨_, rfl, rd, C, d1, _, _, rfl, x2, TD.cl, TD.nN, df_numbers _ _, _, rfl, rd, C, d1, _, _, rfl, x2, TD.cl, TD.nA, df_look _ _, _, rfl, _, _, rfl, rfl, _, rfl, _, rfl, rd, C, d1, _, _, rfl, x2, TD.cl, TD.nA, df_look _ _, _, rfl, a, _, rfl, seq_but ha1 x1 b2, fun p fp => ?_⟩
    have sp' := same_new (o := .lst (((ns.drop (i + 1)).take n).map V.int)) fp
    rw [es, ea, cut_row hlen]
    rw [ea] at sp' x2 b2
    exact k _ p ((b1.trans b2).trans (But.of sp')) ⟨d1, sp' _ _ x2⟩ upd_same
end
end SD
set_option maxHeartbeats 1000000
namespace SD
open PySem PySem.Spec PyProof.Rows L2
open Vagraa (Frac frac zero one isZero weight)
open VagraLine (Line)
open Vagral (Mode)
section
variable {P : Program} {w : World} {K : PySem.W.Frag} {mg : Str → Option Value} {base : Heap}
/-! ### answer_next -/
structure Glo4 (mg : Str → Option Value) : Prop where
  code : GI mg "CODE" 0
  outs : GI mg "OUTS" 1
  small : GI mg "SMALL" 2
  map : GI mg "MAP" 3
  counts : GI mg "COUNTS" 4
  alike : GI mg "ALIKE" 5
  take : GI mg "TAKE" 6
  lines : GI mg "LINES" 7
  run : GI mg "RUN" 8
/-- the methods that answer a call -/
structure HM (P : Program) (w : World) (K : PySem.W.Frag) (mg : Str → Option Value) (base : Heap) (C : Addr) : Prop where
  code : Fm P w K mg base 11 C "hold_code" ["self", "inputs", "row"] (spHoldCode K C)
  outs : Fm P w K mg base 11 C "hold_outs" ["self", "outs"] (spHoldOuts K C)
  small : Fm P w K mg base 11 C "tell_small" ["self", "mode"] (spMode C .small)
  map : Fm P w K mg base 11 C "tell_map" ["self", "mode"] (spMode C .map)
  counts : Fm P w K mg base 11 C "tell_counts" ["self", "mode"] (spMode C .counts)
  alike : Fm P w K mg base 11 C "tell_alike" ["self", "mode", "first", "second"] (spAlike C)
  take : Fm P w K mg base 11 C "hold_made" ["self", "mode"] (spMode C .take)
  lines : Fm P w K mg base 11 C "tell_lines" ["self"] (spTLines C)
  run : Fm P w K mg base 11 C "tell_run" ["self", "row"] (spTRun K C)
def But2 (x y : Addr) (H H' : Hp) : Prop := ∀ b o, H b = some o → b ≠ x → b ≠ y → H' b = some o
theorem HoldAt.but {C D : Addr} {H H' : Hp} {x rd dr : Addr} {s : HSt} {pl po : Addr} {fs : List (Str × V)} (h : HoldAt C H x s pl po) (hr : H rd = some (.ins D dr fs)) (nx : x ≠ rd) (e : But rd H H') : HoldAt C H' x s pl po := by
  obtain ⟨⟨dx, h1⟩, h2, h3⟩ := h
  exact ⟨⟨dx, e _ _ h1 nx⟩, h2.but hr e, e _ _ h3 (ne_of h3 hr (by intro z; cases z))⟩
theorem hf_df {C D dx dr : Addr} {i l o u v : V} (h : HO.ins C dx (hf i l o) = HO.ins D dr (df u v)) : False := by
  have e : hf i l o = df u v := by injection h
  have e2 := congrArg List.length e
  exact absurd (show (3 : Nat) = 2 from e2) (by decide)
theorem drop_cons {ns r : List Int} {i : Nat} {z : Int} (h : ns.drop i = z :: r) : ns[i]? = some z ∧ ns.drop (i + 1) = r := by
  have hi : i < ns.length := by
    by_cases q : i < ns.length
    · exact q
    · rw [List.drop_eq_nil_of_le (by omega)] at h; cases h
  rw [List.drop_eq_getElem_cons hi] at h
  injection h with h1 h2
  exact ⟨by rw [List.getElem?_eq_getElem hi, h1], h2⟩
def spNext (K : PySem.W.Frag) (C D : Addr) : Sp := fun vs H Q _ => ∃ (x rd a pl po : Addr) (s : HSt) (ns : List Int) (i : Nat) (p : Int) (r : List Int) (c : List (List Int)) (t : List Int), vs = [.ref x, .ref rd] ∧ HoldAt C H x s pl po ∧ SC.SOk s ∧ ReadAt D H rd a i ∧ SqL K H a (ns.map V.int) ∧
  ns.drop i = p :: r ∧ SC.Form p r c t ∧ VagralNeutral.asked1 c = true ∧
  ∀ (H' : Hp) (q pl' po' : Addr) (i' : Nat), But2 x rd H H' → HoldAt C H' x (VagralNeutral.step s c).1 pl' po' → (pl' = pl ∨ H pl' = none) → (po' = po ∨ H po' = none) → ReadAt D H' rd a i' → ns.drop i' = t → H q = none → H' q = some (.lst ((VagralNeutral.step s c).2.map V.int)) → Q (.ref q) H'
theorem scNext : FnScope ["holder", "reader", "call", "inputs", "mode", "first"] ["holder", "reader"] (defScope sNext) := ⟨rfl, rfl, rfl, by decide +kernel, rfl, by decide +kernel, by decide +kernel⟩
theorem all60 {l : List Int} {n : Nat} (h : (l.all (fun (z : Int) => VagralNeutral.whole60 z) && decide (l.length ≤ n)) = true) : (∀ z ∈ l, z.natAbs ≤ 10 ^ 18) ∧ l.length ≤ n := by
  rw [Bool.and_eq_true] at h
  exact ⟨fun z hz => SC.whole60_le (List.all_eq_true.mp h.1 z hz), of_decide_eq_true h.2⟩
theorem ok_next {C D : Addr} (T : Glo K mg) (T4 : Glo4 mg) (TH : THold K mg C) (TD : TRead K mg D) (Df : Dx K mg "answer_next" sNext ["holder", "reader"]) (M : HM P w K mg base C) (GN : Fm P w K mg base 1 D "take_number" ["self"] (spTakeN K D)) (GR : Fm P w K mg base 2 D "take_row" ["self"] (spTakeR K D)) :
    Fk P w K mg base 12 "answer_next" ["holder", "reader"] (spNext K C D) := by
  refine Df.ok scNext (fun vs H Q E h => ?_) (fun f cdv A outer s H vs Q E hr h => ?_)
  · obtain ⟨x, rd, a, pl, po, s, ns, i, p, r, c, t, rfl, _⟩ := h
    rfl
  · obtain ⟨x, rd, a, pl, po, st, ns, i, p, r, c, t, rfl, hH, S, hR, ha, hdrop, hF, hask, k⟩ := h
    refine ⟨_, (pss_cons (ps_set (i := 2) scNext.nd rfl (Or.inl rfl) (pmeth0 GN TD.cl (hr.mono (by decide)) (pv 1)))
      (pss_cons (ps_if (pt_cmpR op_eq (pv 2) (pgi T4.code) (nomark _)) (pss_cons (ps_set (i := 3) scNext.nd rfl (Or.inl rfl) (pmeth0 GN TD.cl (hr.mono (by decide)) (pv 1))) (pss_one (ps_ret (pmeth M.code TH.cl hr (pv 0) (pa_cons (pv 3) (pa_cons (pmeth0 GR TD.cl (hr.mono (by decide)) (pv 1)) pa_nil)))))) pss_nil)
      (pss_cons (ps_if (pt_cmpR op_eq (pv 2) (pgi T4.outs) (nomark _)) (pss_one (ps_ret (pmeth M.outs TH.cl hr (pv 0) (pa_cons (pmeth0 GR TD.cl (hr.mono (by decide)) (pv 1)) pa_nil)))) pss_nil)
      (pss_cons (ps_if (pt_cmpR op_eq (pv 2) (pgi T4.small) (nomark _)) (pss_one (ps_ret (pmeth M.small TH.cl hr (pv 0) (pa_cons (pmeth0 GN TD.cl (hr.mono (by decide)) (pv 1)) pa_nil)))) pss_nil)
      (pss_cons (ps_if (pt_cmpR op_eq (pv 2) (pgi T4.map) (nomark _)) (pss_one (ps_ret (pmeth M.map TH.cl hr (pv 0) (pa_cons (pmeth0 GN TD.cl (hr.mono (by decide)) (pv 1)) pa_nil)))) pss_nil)
      (pss_cons (ps_if (pt_cmpR op_eq (pv 2) (pgi T4.counts) (nomark _)) (pss_one (ps_ret (pmeth M.counts TH.cl hr (pv 0) (pa_cons (pmeth0 GN TD.cl (hr.mono (by decide)) (pv 1)) pa_nil)))) pss_nil)
      (pss_cons (ps_if (pt_cmpR op_eq (pv 2) (pgi T4.alike) (nomark _)) (pss_cons (ps_set (i := 4) scNext.nd rfl (Or.inl rfl) (pmeth0 GN TD.cl (hr.mono (by decide)) (pv 1))) (pss_cons (ps_set (i := 5) scNext.nd rfl (Or.inl rfl) (pmeth0 GN TD.cl (hr.mono (by decide)) (pv 1))) (pss_one (ps_ret (pmeth M.alike TH.cl hr (pv 0) (pa_cons (pv 4) (pa_cons (pv 5) (pa_cons (pmeth0 GN TD.cl (hr.mono (by decide)) (pv 1)) pa_nil)))))))) pss_nil)
      (pss_cons (ps_if (pt_cmpR op_eq (pv 2) (pgi T4.take) (nomark _)) (pss_one (ps_ret (pmeth M.take TH.cl hr (pv 0) (pa_cons (pmeth0 GN TD.cl (hr.mono (by decide)) (pv 1)) pa_nil)))) pss_nil)
      (pss_cons (ps_if (pt_cmpR op_eq (pv 2) (pgi T4.lines) (nomark _)) (pss_one (ps_ret (pmeth0 M.lines TH.cl hr (pv 0)))) pss_nil)
      (pss_cons (ps_if (pt_cmpR op_eq (pv 2) (pgi T4.run) (nomark _)) (pss_one (ps_ret (pmeth M.run TH.cl hr (pv 0) (pa_cons (pmeth0 GR TD.cl (hr.mono (by decide)) (pv 1)) pa_nil)))) pss_nil)
      pss_never)))))))))), ?_⟩
    have hR0 := hR
    obtain ⟨dr, hrd⟩ := hR
    have nxr : x ≠ rd := fun e => by
      obtain ⟨⟨dx, hx⟩, _⟩ := hH
      rw [e, hrd] at hx
      exact hf_df (Option.some.inj hx).symm
    have Hd : ∀ {H1 : Hp}, But rd H H1 → HoldAt C H1 x st pl po := fun b => hH.but hrd nxr b
    have Ha : ∀ {H1 : Hp}, But rd H H1 → SqL K H1 a (ns.map V.int) := fun b => seq_but ha hrd b
    have fin : ∀ {H1 : Hp} {i1 : Nat} {cc : Vagral.Call}, But rd H H1 → ReadAt D H1 rd a i1 → ns.drop i1 = t → VagralNeutral.step st c = SC.res st cc → Post C x pl po H1 (SC.res st cc) Q := by
      intro H1 i1 cc b1 hR1 hd e H' q pl' po' b h f1 f2 fq hq
      obtain ⟨d1, hrd1⟩ := hR1
      rw [← e] at h hq
      refine k H' q pl' po' i1 (fun z o ez h1 h2 => b z o (b1 z o ez h2) h1) h ?_ ?_ ⟨d1, b _ _ hrd1 nxr.symm⟩ hd (b1.free hrd1 fq) hq
      · rcases f1 with q | q
        · exact .inl q
        · exact .inr (b1.free hrd1 q)
      · rcases f2 with q | q
        · exact .inl q
        · exact .inr (b1.free hrd1 q)
    obtain ⟨hz0, hd1⟩ := drop_cons hdrop
    refine ⟨_, rfl, rd, dr, _, rfl, hrd, rfl, rd, a, i, ns, p, rfl, hR0, ha, hz0, fun H1 b1 hR1 => ?_⟩
    have hR1' := hR1
    obtain ⟨d1, hrd1⟩ := hR1
    cases hF with
    | code x0 n rest h0 hn =>
      refine ⟨_, rfl, rfl, _, rfl, iteT ?_⟩
      obtain ⟨hz1, hd2⟩ := drop_cons hd1
      obtain ⟨hz2, hd3⟩ := drop_cons hd2
      obtain ⟨nn, rfl⟩ : ∃ nn : Nat, n = (nn : Int) := ⟨n.toNat, by omega⟩
      rw [Int.toNat_natCast] at hn
      have hask' : (VagralNeutral.whole60 x0 && ((rest.take nn).all (fun (z : Int) => VagralNeutral.whole60 z) && decide ((rest.take nn).length ≤ 400))) = true := hask
      rw [Bool.and_eq_true] at hask'
      obtain ⟨hB, hL⟩ := all60 hask'.2
      have hle : i + 2 + 1 + nn ≤ ns.length := by have q1 := (List.getElem?_eq_some_iff.mp hz2).1; have := congrArg List.length hd3; rw [List.length_drop] at this; omega
      refine ⟨_, rfl, rd, d1, _, rfl, hrd1, rfl, rd, a, i + 1, ns, x0, rfl, hR1', Ha b1, hz1, fun H2 b2 hR2 => ?_⟩
      have B2 := b1.trans b2
      have hR2' := hR2
      obtain ⟨d2, hrd2⟩ := hR2
      obtain ⟨⟨dx2, hx2⟩, _⟩ := Hd B2
      refine ⟨_, rfl, x, dx2, _, rfl, hx2, rfl, _, rfl, _, rfl, rd, d2, _, rfl, hrd2, rfl, rd, a, i + 2, nn, ns, rfl, hR2', Ha B2, hz2, hle, fun H3 pr b3 hR3 hpr => ?_⟩
      have B3 := B2.trans b3
      rw [hd3] at hpr
      exact ⟨x, pl, po, pr, st, x0, rest.take nn, rfl, Hd B3, SqL.of hpr, hB, hL, fin B3 hR3 (by rw [← hd3, List.drop_drop]; rfl) rfl⟩
    | outs n rest h0 hn =>
      refine ⟨_, rfl, rfl, _, rfl, iteF ?_⟩
      refine ⟨_, rfl, rfl, _, rfl, iteT ?_⟩
      obtain ⟨hz1, hd2⟩ := drop_cons hd1
      obtain ⟨nn, rfl⟩ : ∃ nn : Nat, n = (nn : Int) := ⟨n.toNat, by omega⟩
      rw [Int.toNat_natCast] at hn
      have hask' : ((rest.take nn).all (fun (z : Int) => VagralNeutral.whole60 z) && decide ((rest.take nn).length ≤ 200)) = true := hask
      obtain ⟨hB, hL⟩ := all60 hask'
      have hle : i + 1 + 1 + nn ≤ ns.length := by have q1 := (List.getElem?_eq_some_iff.mp hz1).1; have := congrArg List.length hd2; rw [List.length_drop] at this; omega
      obtain ⟨⟨dx2, hx2⟩, _⟩ := Hd b1
      refine ⟨_, rfl, x, dx2, _, rfl, hx2, rfl, _, rfl, rd, d1, _, rfl, hrd1, rfl, rd, a, i + 1, nn, ns, rfl, hR1', Ha b1, hz1, hle, fun H3 pr b3 hR3 hpr => ?_⟩
      have B3 := b1.trans b3
      rw [hd2] at hpr
      exact ⟨x, pl, po, pr, st, rest.take nn, rfl, Hd B3, SqL.of hpr, Nat.le_trans hL (by decide), fin B3 hR3 (by rw [← hd2, List.drop_drop]; rfl) rfl⟩
    | small z t =>
      refine ⟨_, rfl, rfl, _, rfl, iteF ?_⟩
      refine ⟨_, rfl, rfl, _, rfl, iteF ?_⟩
      refine ⟨_, rfl, rfl, _, rfl, iteT ?_⟩
      obtain ⟨hz1, hd2⟩ := drop_cons hd1
      obtain ⟨⟨dx2, hx2⟩, _⟩ := Hd b1
      refine ⟨_, rfl, x, dx2, _, rfl, hx2, rfl, _, rfl, rd, d1, _, rfl, hrd1, rfl, rd, a, i + 1, ns, z, rfl, hR1', Ha b1, hz1, fun H2 b2 hR2 => ?_⟩
      have B2 := b1.trans b2
      exact ⟨x, pl, po, st, z, rfl, Hd B2, S, fin B2 hR2 hd2 rfl⟩
    | map z t =>
      refine ⟨_, rfl, rfl, _, rfl, iteF ?_⟩
      refine ⟨_, rfl, rfl, _, rfl, iteF ?_⟩
      refine ⟨_, rfl, rfl, _, rfl, iteF ?_⟩
      refine ⟨_, rfl, rfl, _, rfl, iteT ?_⟩
      obtain ⟨hz1, hd2⟩ := drop_cons hd1
      obtain ⟨⟨dx2, hx2⟩, _⟩ := Hd b1
      refine ⟨_, rfl, x, dx2, _, rfl, hx2, rfl, _, rfl, rd, d1, _, rfl, hrd1, rfl, rd, a, i + 1, ns, z, rfl, hR1', Ha b1, hz1, fun H2 b2 hR2 => ?_⟩
      have B2 := b1.trans b2
      exact ⟨x, pl, po, st, z, rfl, Hd B2, S, fin B2 hR2 hd2 rfl⟩
    | counts z t =>
      refine ⟨_, rfl, rfl, _, rfl, iteF ?_⟩
      refine ⟨_, rfl, rfl, _, rfl, iteF ?_⟩
      refine ⟨_, rfl, rfl, _, rfl, iteF ?_⟩
      refine ⟨_, rfl, rfl, _, rfl, iteF ?_⟩
      refine ⟨_, rfl, rfl, _, rfl, iteT ?_⟩
      obtain ⟨hz1, hd2⟩ := drop_cons hd1
      obtain ⟨⟨dx2, hx2⟩, _⟩ := Hd b1
      refine ⟨_, rfl, x, dx2, _, rfl, hx2, rfl, _, rfl, rd, d1, _, rfl, hrd1, rfl, rd, a, i + 1, ns, z, rfl, hR1', Ha b1, hz1, fun H2 b2 hR2 => ?_⟩
      have B2 := b1.trans b2
      exact ⟨x, pl, po, st, z, rfl, Hd B2, S, fin B2 hR2 hd2 rfl⟩
    | alike z i0 j0 t =>
      refine ⟨_, rfl, rfl, _, rfl, iteF ?_⟩
      refine ⟨_, rfl, rfl, _, rfl, iteF ?_⟩
      refine ⟨_, rfl, rfl, _, rfl, iteF ?_⟩
      refine ⟨_, rfl, rfl, _, rfl, iteF ?_⟩
      refine ⟨_, rfl, rfl, _, rfl, iteF ?_⟩
      refine ⟨_, rfl, rfl, _, rfl, iteT ?_⟩
      obtain ⟨hz1, hd2⟩ := drop_cons hd1
      obtain ⟨hz2, hd3⟩ := drop_cons hd2
      obtain ⟨hz3, hd4⟩ := drop_cons hd3
      refine ⟨_, rfl, rd, d1, _, rfl, hrd1, rfl, rd, a, i + 1, ns, z, rfl, hR1', Ha b1, hz1, fun H2 b2 hR2 => ?_⟩
      have B2 := b1.trans b2
      have hR2' := hR2
      obtain ⟨d2, hrd2⟩ := hR2
      refine ⟨_, rfl, rd, d2, _, rfl, hrd2, rfl, rd, a, i + 2, ns, i0, rfl, hR2', Ha B2, hz2, fun H3 b3 hR3 => ?_⟩
      have B3 := B2.trans b3
      have hR3' := hR3
      obtain ⟨d3, hrd3⟩ := hR3
      obtain ⟨⟨dx3, hx3⟩, _⟩ := Hd B3
      refine ⟨_, rfl, x, dx3, _, rfl, hx3, rfl, _, rfl, _, rfl, _, rfl, rd, d3, _, rfl, hrd3, rfl, rd, a, i + 3, ns, j0, rfl, hR3', Ha B3, hz3, fun H4 b4 hR4 => ?_⟩
      have B4 := B3.trans b4
      exact ⟨x, pl, po, st, z, i0, j0, rfl, Hd B4, S, fin B4 hR4 hd4 rfl⟩
    | take z t =>
      refine ⟨_, rfl, rfl, _, rfl, iteF ?_⟩
      refine ⟨_, rfl, rfl, _, rfl, iteF ?_⟩
      refine ⟨_, rfl, rfl, _, rfl, iteF ?_⟩
      refine ⟨_, rfl, rfl, _, rfl, iteF ?_⟩
      refine ⟨_, rfl, rfl, _, rfl, iteF ?_⟩
      refine ⟨_, rfl, rfl, _, rfl, iteF ?_⟩
      refine ⟨_, rfl, rfl, _, rfl, iteT ?_⟩
      obtain ⟨hz1, hd2⟩ := drop_cons hd1
      obtain ⟨⟨dx2, hx2⟩, _⟩ := Hd b1
      refine ⟨_, rfl, x, dx2, _, rfl, hx2, rfl, _, rfl, rd, d1, _, rfl, hrd1, rfl, rd, a, i + 1, ns, z, rfl, hR1', Ha b1, hz1, fun H2 b2 hR2 => ?_⟩
      have B2 := b1.trans b2
      exact ⟨x, pl, po, st, z, rfl, Hd B2, S, fin B2 hR2 hd2 rfl⟩
    | lines =>
      refine ⟨_, rfl, rfl, _, rfl, iteF ?_⟩
      refine ⟨_, rfl, rfl, _, rfl, iteF ?_⟩
      refine ⟨_, rfl, rfl, _, rfl, iteF ?_⟩
      refine ⟨_, rfl, rfl, _, rfl, iteF ?_⟩
      refine ⟨_, rfl, rfl, _, rfl, iteF ?_⟩
      refine ⟨_, rfl, rfl, _, rfl, iteF ?_⟩
      refine ⟨_, rfl, rfl, _, rfl, iteF ?_⟩
      refine ⟨_, rfl, rfl, _, rfl, iteT ?_⟩
      obtain ⟨⟨dx2, hx2⟩, _⟩ := Hd b1
      exact ⟨_, rfl, x, dx2, _, rfl, hx2, rfl, x, pl, po, st, rfl, Hd b1, S, fin b1 hR1' hd1 rfl⟩
    | run n rest h0 hn =>
      refine ⟨_, rfl, rfl, _, rfl, iteF ?_⟩
      refine ⟨_, rfl, rfl, _, rfl, iteF ?_⟩
      refine ⟨_, rfl, rfl, _, rfl, iteF ?_⟩
      refine ⟨_, rfl, rfl, _, rfl, iteF ?_⟩
      refine ⟨_, rfl, rfl, _, rfl, iteF ?_⟩
      refine ⟨_, rfl, rfl, _, rfl, iteF ?_⟩
      refine ⟨_, rfl, rfl, _, rfl, iteF ?_⟩
      refine ⟨_, rfl, rfl, _, rfl, iteF ?_⟩
      refine ⟨_, rfl, rfl, _, rfl, iteT ?_⟩
      obtain ⟨hz1, hd2⟩ := drop_cons hd1
      obtain ⟨nn, rfl⟩ : ∃ nn : Nat, n = (nn : Int) := ⟨n.toNat, by omega⟩
      rw [Int.toNat_natCast] at hn
      have hask' : ((rest.take nn).all (fun (z : Int) => VagralNeutral.whole60 z) && decide ((rest.take nn).length ≤ 200)) = true := hask
      obtain ⟨hB, hL⟩ := all60 hask'
      have hle : i + 1 + 1 + nn ≤ ns.length := by have q1 := (List.getElem?_eq_some_iff.mp hz1).1; have := congrArg List.length hd2; rw [List.length_drop] at this; omega
      obtain ⟨⟨dx2, hx2⟩, _⟩ := Hd b1
      refine ⟨_, rfl, x, dx2, _, rfl, hx2, rfl, _, rfl, rd, d1, _, rfl, hrd1, rfl, rd, a, i + 1, nn, ns, rfl, hR1', Ha b1, hz1, hle, fun H3 pr b3 hR3 hpr => ?_⟩
      have B3 := b1.trans b3
      rw [hd2] at hpr
      exact ⟨x, pl, po, pr, st, rest.take nn, rfl, Hd B3, S, SqL.of hpr, hB, Nat.le_trans hL (by decide), fin B3 hR3 (by rw [← hd2, List.drop_drop]; rfl) rfl⟩
end
end SD
set_option maxHeartbeats 1000000
namespace SD
open PySem PySem.Spec PyProof.Rows L2
open Vagraa (Frac frac zero one isZero weight)
open VagraLine (Line)
open Vagral (Mode)
section
variable {P : Program} {w : World} {K : PySem.W.Frag} {mg : Str → Option Value} {base : Heap}
/-! ### answers -/
structure KH (K : PySem.W.Frag) (mg : Str → Option Value) (x : Str) (q : Str) (st : Stmt) (ps : List Str) (C fI : Addr) (fdI : FuncData) : Prop where
  mgC : mg x = some (.ref C)
  mkc : Mk K C fI
  F : Fun K "__init__" q st fI fdI
  b : Binds K fdI ps []
theorem HoldAt.updG {C : Addr} {H : Hp} {x g : Addr} {s : HSt} {pl po : Addr} {ys : List V} {o : HO} (h : HoldAt C H x s pl po) (hg : H g = some (.lst ys)) (n1 : pl ≠ g) (n2 : po ≠ g) : HoldAt C (upd H g o) x s pl po := by
  obtain ⟨⟨dx, h1⟩, ⟨as, h2, h3⟩, h4⟩ := h
  refine ⟨⟨dx, ?_⟩, ⟨as, ?_, h3.updL hg⟩, ?_⟩
  · rw [upd_ne (ne_of h1 hg (by intro z; cases z))]; exact h1
  · rw [upd_ne n1]; exact h2
  · rw [upd_ne n2]; exact h4
def spAnswers (K : PySem.W.Frag) : Sp := fun vs H Q _ => ∃ (a : Addr) (ns : List Int), vs = [.ref a] ∧ SqL K H a (ns.map V.int) ∧ PyVagral.answers_asked ns = true ∧ ∀ (H' : Hp) (p : Addr), H' p = some (.lst ((PyVagral.answers ns).map V.int)) → Q (.ref p) H'
theorem scAnswers : FnScope ["calls", "holder", "reader", "given", "answer"] ["calls"] (defScope sAnswers) := ⟨rfl, rfl, rfl, by decide +kernel, rfl, by decide +kernel, by decide +kernel⟩
theorem ok_answers {C D fI fJ : Addr} {fdI fdJ : FuncData} (T : Glo K mg) (TH : THold K mg C) (TD : TRead K mg D) (KHo : KH K mg "Holder" "Holder.__init__" sHInit ["self"] C fI fdI) (KRe : KH K mg "Reader" "Reader.__init__" sDInit ["self", "numbers"] D fJ fdJ)
    {f : Addr} {fd : FuncData} (Df0 : Df K mg "answers" sAnswers ["calls"] f fd) (CN : Fk P w K mg base 12 "answer_next" ["holder", "reader"] (spNext K C D)) (GD : Fm P w K mg base 1 D "is_done" ["self"] (spIsDone K D)) : FnOk P w K mg base CX0 13 f fd ["calls"] (spAnswers K) := by
  refine Df0.fn.ok scAnswers (fun vs H Q E h => ?_) (fun cdv A outer s H vs Q E hr h => ?_)
  · obtain ⟨a, ns, rfl, _⟩ := h
    rfl
  · obtain ⟨a, ns, rfl, ha, hask, k⟩ := h
    refine ⟨_, pss_cons (ps_set (i := 1) scAnswers.nd rfl (Or.inl rfl) (pe_make0 KHo.mkc (ok_HI TH KHo.F) (hr.mono (by decide)) rfl KHo.mgC KHo.b .nil pass0))
      (pss_cons (ps_set (i := 2) scAnswers.nd rfl (Or.inl rfl) (pe_make KRe.mkc (ok_DI TD KRe.F) (hr.mono (by decide)) rfl KRe.mgC KRe.b .nil pass0 (pa_cons (pv 0) pa_nil)))
      (pss_cons (ps_set (i := 3) scAnswers.nd rfl (Or.inl rfl) (pe_lst pa_nil))
      (pss_cons (ps_while PassesOwn.never (pt_not (pt_val (pmeth0 GD TD.cl (hr.mono (by decide)) (pv 2))))
        (pss_cons (ps_set (i := 4) scAnswers.nd rfl (Or.inl rfl) (pcall CN hr (pa_cons (pv 1) (pa_cons (pv 2) pa_nil))))
        (pss_cons (ps_expr (pe_bm PySem.F.plainAttrs_list PySem.F.slot_list_append PySem.F.type_list_append mt_append (pv 3) (pa_cons (pe_callB call_len_seq rfl T.nLen PySem.boot_len (pa_cons (pv 4) pa_nil)) pa_nil)))
        (pss_one (ps_expr (pe_bm PySem.F.plainAttrs_list PySem.F.slot_list_extend PySem.F.type_list_extend mt_extend (pv 3) (pa_cons (pv 4) pa_nil)))))))
      (pss_one (ps_ret (pv 3)))))), ?_⟩
    obtain ⟨cs0, hrest, hcl, eans⟩ := SC.asked_rest hask
    refine fun x dx nx ndx nex => ⟨x, dx, rfl, upd_same, fun H1 pl0 po0 hH1 fl fo b1 => ⟨rfl, _, rfl, ?_⟩⟩
    have s1 : Same H H1 := Same.made nx ndx b1
    refine fun rd dr nrd ndr ner => ⟨rd, dr, a, rfl, upd_same, fun H2 hR2 b2 => ⟨rfl, ?_⟩⟩
    have s2 : Same H1 H2 := Same.made nrd ndr b2
    refine ⟨by show 0 ≤ sizeLine; decide, fun g fg => ?_⟩
    have s3 := same_new (o := .lst []) fg
    have S2 := s1.trans s2
    have frd : H rd = none := s1.free nrd
    have fgH : H g = none := S2.free fg
    have hH2 := hH1.same s2
    obtain ⟨_, ⟨as0, hp0, _⟩, ho0⟩ := hH2
    refine ⟨fun m σ Hc => ∃ (v4 : Option V) (st : HSt) (pl po : Addr) (i : Nat) (cs : List (List (List Int))) (acc : List Int), m = cs.length ∧ σ = [some (.ref a), some (.ref x), some (.ref rd), some (.ref g), v4] ∧ Same H Hc ∧ HoldAt C Hc x st pl po ∧ SC.SOk st ∧ ReadAt D Hc rd a i ∧ SC.Rest (ns.drop i) cs ∧
      Hc g = some (.lst (acc.map V.int)) ∧ pl ≠ g ∧ po ≠ g ∧ acc.length ≤ 700 * (400 - cs.length) ∧ cs.length ≤ 400 ∧ PyVagral.answers ns = acc ++ PyFlat.told (PyFlat.played VagralNeutral.step st cs),
      ⟨_, none, Vagral.start, pl0, po0, 0, cs0, [], rfl, rfl, S2.trans s3, (hH1.same s2).same s3, SC.SOk.start, ?_, hrest, upd_same, ne_of_none hp0 fg, ne_of_none ho0 fg, Nat.zero_le _, hcl, eans⟩, ?_⟩
    · obtain ⟨d2, hrd2⟩ := hR2
      exact ⟨d2, s3 _ _ hrd2⟩
    rintro m σ Hc ⟨v4, st, pl, po, i, cs, acc, rfl, rfl, S, hH, hS, hR, hre, hg, npl, npo, hac, hcs, e0⟩
    have hR' := hR
    obtain ⟨dr', hrd⟩ := hR
    refine ⟨_, rfl, rd, dr', _, rfl, hrd, rfl, rd, a, i, ns, rfl, hR', S.seq ha, _, rfl, ite2 (fun h => ?_) (fun h => ?_)⟩
    · have hi : i < ns.length := Nat.lt_of_not_le (of_not h)
      have hdr : ns.drop i = ns[i] :: ns.drop (i + 1) := List.drop_eq_getElem_cons hi
      rw [hdr] at hre
      obtain ⟨c, t, cs', hF, hre', rfl, hask1⟩ := hre.cons
      refine ⟨fun σ' Hc' => ∃ (v4 : Option V) (st : HSt) (pl po : Addr) (i : Nat) (cs : List (List (List Int))) (acc : List Int), cs.length < (c :: cs').length ∧ σ' = [some (.ref a), some (.ref x), some (.ref rd), some (.ref g), v4] ∧ Same H Hc' ∧ HoldAt C Hc' x st pl po ∧ SC.SOk st ∧ ReadAt D Hc' rd a i ∧ SC.Rest (ns.drop i) cs ∧
        Hc' g = some (.lst (acc.map V.int)) ∧ pl ≠ g ∧ po ≠ g ∧ acc.length ≤ 700 * (400 - cs.length) ∧ cs.length ≤ 400 ∧ PyVagral.answers ns = acc ++ PyFlat.told (PyFlat.played VagralNeutral.step st cs),
        fun σ' H' ⟨v4, st, pl, po, i, cs, acc, q0, q1, q2, q3, q4, q5, q6, q7, q8, q9, q10, q11, q12⟩ => ⟨_, q0, v4, st, pl, po, i, cs, acc, rfl, q1, q2, q3, q4, q5, q6, q7, q8, q9, q10, q11, q12⟩, ?_⟩
      refine ⟨_, rfl, _, rfl, x, rd, a, pl, po, st, ns, i, _, _, c, t, rfl, hH, hS, hR', S.seq ha, hdr, hF, hask1, fun H2 q pl' po' i' b hH2 f1 f2 hR2 hd2 fq hq => ?_⟩
      obtain ⟨hS2, hl2⟩ := SC.step_sok hS hF hask1
      have e0' : PyVagral.answers ns = acc ++ (((((VagralNeutral.step st c).2.length : Int) :: (VagralNeutral.step st c).2)) ++ PyFlat.told (PyFlat.played VagralNeutral.step (VagralNeutral.step st c).1 cs')) := by
        rw [e0, ← SC.told_cons]
        rfl
      generalize VagralNeutral.step st c = stp at *
      have hHx := hH
      obtain ⟨⟨dxc, hxc⟩, _, _⟩ := hHx
      have hg2 : H2 g = some (.lst (acc.map V.int)) := b _ _ hg (ne_of hg hxc (by intro z; cases z)) (ne_of hg hrd (by intro z; cases z))
      have nqg : q ≠ g := fun e => by rw [e, hg] at fq; cases fq
      have npl' : pl' ≠ g := by
        rcases f1 with q | q
        · rw [q]; exact npl
        · exact fun e => by rw [e, hg] at q; cases q
      have npo' : po' ≠ g := by
        rcases f2 with q | q
        · rw [q]; exact npo
        · exact fun e => by rw [e, hg] at q; cases q
      have hcs' : cs'.length + 1 ≤ 400 := hcs
      have hacc : acc.length ≤ 700 * (400 - (cs'.length + 1)) := hac
      have hsz : sizeLine = 16777216 := sizeLine_eq
      refine ⟨_, rfl, .inl ⟨rfl, _, SqL.of hg2⟩, _, rfl, q, _, rfl, .inl (SqL.of hq), g, _, _, rfl, rfl, hg2, by rw [List.length_map, hsz]; omega, ?_⟩
      refine ⟨_, rfl, .inl ⟨rfl, _, SqL.of upd_same⟩, _, rfl, g, q, _, _, rfl, rfl, upd_same, by rw [upd_ne nqg]; exact hq, ?_, ?_⟩
      · rw [List.length_append, List.length_map, List.length_map, hsz]
        show acc.length + 1 + stp.2.length ≤ _
        omega
      refine ⟨_, stp.1, pl', po', i', cs', acc ++ ((stp.2.length : Int) :: stp.2), by show cs'.length < cs'.length + 1; omega, rfl, fun z o ez => ?_, ?_, hS2, ?_, by rw [hd2]; exact hre', ?_, npl', npo', ?_, by omega, ?_⟩
      · have ng : z ≠ g := ne_of_none ez fgH
        rw [upd_ne ng, upd_ne ng]
        exact b z o (S _ _ ez) (ne_of_none ez nx) (ne_of_none ez frd)
      · exact (hH2.updG hg2 npl' npo').updG upd_same npl' npo'
      · obtain ⟨d2, hrd2⟩ := hR2
        have nrg : rd ≠ g := ne_of hrd2 hg2 (by intro z; cases z)
        exact ⟨d2, by rw [upd_ne nrg, upd_ne nrg]; exact hrd2⟩
      · rw [upd_same, List.map_append, List.length_map, List.append_assoc]
        rfl
      · rw [List.length_append, List.length_cons]
        omega
      · rw [e0', List.append_assoc]
    · have hi : ns.length ≤ i := of_nn h
      rw [List.drop_eq_nil_of_le hi] at hre
      have ec := hre.nil
      subst ec
      have e1 : PyVagral.answers ns = acc := by rw [e0]; exact List.append_nil acc
      rw [e1] at k
      exact ⟨_, rfl, k Hc g hg⟩
end
end SD
set_option maxHeartbeats 1000000
namespace SD
open PySem PySem.Spec PyProof.Rows L2
open Vagraa (Frac frac zero one isZero weight)
open VagraLine (Line)
open Vagral (Mode)
section
variable {P : Program} {w : World} {K : PySem.W.Frag} {mg : Str → Option Value} {base : Heap}
/-! ### the text, put together -/
theorem dx_mk {h : Heap} {x : Str} {st : Stmt} {ps : List Str} {f : Addr} {oc : Value} {od an : Option Addr} {sl : Array (Option Value)} {kV dc pm cd ct : Value} (X : K.In h) (G : h.Ns mainGlobals mg)
    (hb : ∀ (kV doc pm : Value) (an : Option Addr) (cdv ct : Value) (us : List Value), us.length = ps.length → bindArgs (PySem.W.fnOf x x (defArgs st) (defBody st) (defScope st) .none kV doc pm an cdv ct) ⟨us, []⟩ = pure (ps.zip us))
    (a : PySem.W.nsIn K mainGlobals x = some (some (.ref f))) (l : K.lookup f = some ⟨oc, od, .func (PySem.W.fnOf x x (defArgs st) (defBody st) (defScope st) .none kV dc pm an cd ct), sl⟩) (c : PySem.W.codeIn K cd x = true) (k : PySem.W.keepIn K (.ref f) = true) : Dx K mg x st ps :=
  ⟨f, _, fun_mk l c k, (fun_mk l c k).binds hb, PySem.W.mg_of X G a⟩
theorem mx_mk {C : Addr} {m q : Str} {st : Stmt} {ps : List Str} {f : Addr} {oc : Value} {od an : Option Addr} {sl : Array (Option Value)} {kV dc pm cd ct : Value}
    (hb : ∀ (kV doc pm : Value) (an : Option Addr) (cdv ct : Value) (us : List Value), us.length = ps.length → bindArgs (PySem.W.fnOf m q (defArgs st) (defBody st) (defScope st) .none kV doc pm an cdv ct) ⟨us, []⟩ = pure (ps.zip us))
    (a : PySem.W.findIn K (.ref C) m = some (some (.ref f))) (i : PySem.W.isFn K (.ref f) = true) (l : K.lookup f = some ⟨oc, od, .func (PySem.W.fnOf m q (defArgs st) (defBody st) (defScope st) .none kV dc pm an cd ct), sl⟩) (c : PySem.W.codeIn K cd q = true) (k : PySem.W.keepIn K (.ref f) = true) : Mx K C m q st ps :=
  ⟨f, _, fun_mk l c k, (fun_mk l c k).binds hb, ⟨a, i, k⟩⟩
/-- a class's __init__, and that it can be made -/
def Ix (K : PySem.W.Frag) (mg : Str → Option Value) (x q : Str) (st : Stmt) (ps : List Str) (C : Addr) : Prop := ∃ fI fdI, KH K mg x q st ps C fI fdI
theorem ix_mk {h : Heap} {C : Addr} {x q : Str} {st : Stmt} {ps : List Str} {f : Addr} {oc : Value} {od an : Option Addr} {sl : Array (Option Value)} {kV dc pm cd ct : Value} (X : K.In h) (G : h.Ns mainGlobals mg)
    (hb : ∀ (kV doc pm : Value) (an : Option Addr) (cdv ct : Value) (us : List Value), us.length = ps.length → bindArgs (PySem.W.fnOf "__init__" q (defArgs st) (defBody st) (defScope st) .none kV doc pm an cdv ct) ⟨us, []⟩ = pure (ps.zip us))
    (aC : PySem.W.nsIn K mainGlobals x = some (some (.ref C))) (mk : PySem.W.makesIn K C = true) (kc : PySem.W.keepIn K (.ref C) = true)
    (a : PySem.W.findIn K (.ref C) "__init__" = some (some (.ref f))) (i : PySem.W.isFn K (.ref f) = true) (l : K.lookup f = some ⟨oc, od, .func (PySem.W.fnOf "__init__" q (defArgs st) (defBody st) (defScope st) .none kV dc pm an cd ct), sl⟩) (c : PySem.W.codeIn K cd q = true) (k : PySem.W.keepIn K (.ref f) = true) : Ix K mg x q st ps C :=
  ⟨f, _, PySem.W.mg_of X G aC, ⟨mk, a, i, kc⟩, fun_mk l c k, (fun_mk l c k).binds hb⟩
theorem gi_mk {h : Heap} {x : Str} {i : Int} {t : Tok} (X : K.In h) (G : h.Ns mainGlobals mg) (a : PySem.W.nsIn K mainGlobals x = some (some (.int i t))) : GI mg x i := ⟨t, PySem.W.mg_of X G a⟩
theorem then_ {p C : Prop} (h : p) (k : p → C) : C := k h
theorem lens_mk {h : Heap} {La : Addr} {od : Option Addr} {sl : Array (Option Value)} {n : Nat} {t0 t1 t2 t3 t4 t5 t6 : Tok} (X : K.In h) (G : h.Ns mainGlobals mg) (a : PySem.W.nsIn K mainGlobals "LENGTHS" = some (some (.ref La)))
    (l : K.lookup La = some ⟨.type "tuple", od, .seq #[.int 2 t0, .int 3 t1, .int 3 t2, .int 3 t3, .int 3 t4, .int 3 t5, .int 2 t6] n, sl⟩) : ∃ La, mg "LENGTHS" = some (.ref La) ∧ ∀ H : Hp, SqT K H La (SC.lens.map V.int) :=
  ⟨La, PySem.W.mg_of X G a, fun H => .inr ⟨_, _, _, l, rfl, rfl, by show 7 ≤ sizeLine; decide, .cons ⟨_, rfl⟩ (.cons ⟨_, rfl⟩ (.cons ⟨_, rfl⟩ (.cons ⟨_, rfl⟩ (.cons ⟨_, rfl⟩ (.cons ⟨_, rfl⟩ (.cons ⟨_, rfl⟩ .nil))))))⟩⟩
/-- all that the top has written -/
structure AllD (K : PySem.W.Frag) (mg : Str → Option Value) (CM CR CH CD : Addr) : Prop where
  glo : Glo K mg
  glo2 : Glo2 mg
  glo3 : Glo3 mg
  glo4 : Glo4 mg
  d_greatest_divisor : Dx K mg "greatest_divisor" sGcd ["left", "right"]
  d_lowest : Dx K mg "lowest" sLow ["top", "bottom"]
  d_weight : Dx K mg "weight" sWgt ["value"]
  d_plus : Dx K mg "plus" sPlus ["left", "right"]
  d_negative : Dx K mg "negative" sNeg ["value"]
  d_minus : Dx K mg "minus" sMinus ["left", "right"]
  d_times : Dx K mg "times" sTimes ["left", "right"]
  d_divided : Dx K mg "divided" sDiv ["left", "right"]
  d_is_operation : Dx K mg "is_operation" sIsOp ["line"]
  d_used_lines : Dx K mg "used_lines" sUsed ["line"]
  d_with_lines_replaced : Dx K mg "with_lines_replaced" sRepl ["line", "numbers"]
  d_read_constant : Dx K mg "read_constant" sRdC ["numbers"]
  d_read_line : Dx K mg "read_line" sRdL ["row", "at"]
  d_read_lines : Dx K mg "read_lines" sRdLs ["row"]
  d_number_row : Dx K mg "number_row" sRow ["lines"]
  d_uses_only_earlier : Dx K mg "uses_only_earlier" sEarly ["lines", "inputs"]
  d_operation_value : Dx K mg "operation_value" sOpV ["kind", "values"]
  d_depth : Dx K mg "depth" sDepth ["lines"]
  d_three_counts : Dx K mg "three_counts" sCnt ["lines"]
  d_is_worth : Dx K mg "is_worth" sWorth ["made", "number", "value"]
  d_is_negative : Dx K mg "is_negative" sIsNeg ["made", "number"]
  d_sum_identity : Dx K mg "sum_identity" sSumI ["made", "a", "b"]
  d_difference_identity : Dx K mg "difference_identity" sDiffI ["made", "a", "b"]
  d_product_identity : Dx K mg "product_identity" sProdI ["made", "a", "b"]
  d_quotient_identity : Dx K mg "quotient_identity" sQuotI ["made", "a", "b"]
  d_negative_identity : Dx K mg "negative_identity" sNegI ["made", "a"]
  d_identity : Dx K mg "identity" sIdent ["made", "line"]
  d_folded : Dx K mg "folded" sFold ["made", "line"]
  d_one_step : Dx K mg "one_step" sOne ["made", "line", "mode"]
  d_settled : Dx K mg "settled" sSettled ["made", "line", "mode"]
  d_in_shared_order : Dx K mg "in_shared_order" sOrder ["line"]
  d_put : Dx K mg "put" sPut ["made", "places", "line", "mode"]
  d_lines_anew : Dx K mg "lines_anew" sAnew ["lines", "mode"]
  d_needed_lines : Dx K mg "needed_lines" sNeeded ["lines", "outs"]
  d_without_dead : Dx K mg "without_dead" sDead ["made", "outs"]
  d_make : Dx K mg "make" sMake ["lines", "outs", "mode"]
  d_read_point : Dx K mg "read_point" sPoint ["row", "inputs"]
  d_line_value : Dx K mg "line_value" sLVal ["line", "before", "point"]
  d_fault_of : Dx K mg "fault_of" sFault ["value"]
  d_run_lines : Dx K mg "run_lines" sRun ["lines", "point"]
  d_is_mode : Dx K mg "is_mode" sIsMode ["mode"]
  d_code_row : Dx K mg "code_row" sCodeRow ["lines", "outs"]
  d_answer_next : Dx K mg "answer_next" sNext ["holder", "reader"]
  m_is_line : Mx K CH "is_line" "Holder.is_line" sIsLine ["self", "number"]
  m_new_outs : Mx K CH "new_outs" "Holder.new_outs" sNewOuts ["self", "made"]
  m_hold_code : Mx K CH "hold_code" "Holder.hold_code" sHoldCode ["self", "inputs", "row"]
  m_hold_outs : Mx K CH "hold_outs" "Holder.hold_outs" sHoldOuts ["self", "outs"]
  m_tell_small : Mx K CH "tell_small" "Holder.tell_small" sTSmall ["self", "mode"]
  m_tell_map : Mx K CH "tell_map" "Holder.tell_map" sTMap ["self", "mode"]
  m_tell_counts : Mx K CH "tell_counts" "Holder.tell_counts" sTCounts ["self", "mode"]
  m_tell_alike : Mx K CH "tell_alike" "Holder.tell_alike" sTAlike ["self", "mode", "first", "second"]
  m_hold_made : Mx K CH "hold_made" "Holder.hold_made" sHoldMade ["self", "mode"]
  m_tell_lines : Mx K CH "tell_lines" "Holder.tell_lines" sTLines ["self"]
  m_tell_run : Mx K CH "tell_run" "Holder.tell_run" sTRun ["self", "row"]
  m_is_done : Mx K CD "is_done" "Reader.is_done" sIsDone ["self"]
  m_take_number : Mx K CD "take_number" "Reader.take_number" sTakeN ["self"]
  m_take_row : Mx K CD "take_row" "Reader.take_row" sTakeR ["self"]
  i_Made : Ix K mg "Made" "Made.__init__" sMadeI ["self", "lines", "went"] CM
  i_Run : Ix K mg "Run" "Run.__init__" sRunI ["self", "worked_out", "fault"] CR
  i_Holder : Ix K mg "Holder" "Holder.__init__" sHInit ["self"] CH
  i_Reader : Ix K mg "Reader" "Reader.__init__" sDInit ["self", "numbers"] CD
  clM : Cls K CM
  clR : Cls K CR
  clH : Cls K CH
  clD : Cls K CD
  nMl : NoAttr K CM "lines"
  nMw : NoAttr K CM "went"
  nRw : NoAttr K CR "worked_out"
  nRf : NoAttr K CR "fault"
  nHi : NoAttr K CH "inputs"
  nHl : NoAttr K CH "lines"
  nHo : NoAttr K CH "outs"
  nDn : NoAttr K CD "numbers"
  nDa : NoAttr K CD "at"
/-- every def keeps its promise -/
theorem all_ok {CM CR CH CD f : Addr} {fd : FuncData} (A : AllD K mg CM CR CH CD) (Df0 : Df K mg "answers" sAnswers ["calls"] f fd) : FnOk P w K mg base CX0 13 f fd ["calls"] (spAnswers K) := by
  obtain ⟨fM, fdM, iM⟩ := A.i_Made
  obtain ⟨fR, fdR, iR⟩ := A.i_Run
  obtain ⟨fH, fdH, iH⟩ := A.i_Holder
  obtain ⟨fD, fdD, iD⟩ := A.i_Reader
  have T := A.glo
  have TM : TMade K mg CM fM fdM := ⟨A.clM, A.nMl, A.nMw, iM.mgC, iM.mkc, iM.F, iM.b⟩
  have TR : TRun K mg CR fR fdR := ⟨A.clR, A.nRw, A.nRf, iR.mgC, iR.mkc, iR.F, iR.b⟩
  have TH : THold K mg CH := ⟨A.clH, A.nHi, A.nHl, A.nHo⟩
  have TD : TRead K mg CD := ⟨A.clD, A.nDn, A.nDa⟩
  have gcd := ok_gcd (P := P) (w := w) (base := base) A.d_greatest_divisor
  have low := ok_low A.d_lowest gcd T.nAbs
  have wgt := ok_wgt (P := P) (w := w) (base := base) A.d_weight
  have plus := ok_plus A.d_plus low
  have neg := ok_neg (P := P) (w := w) (base := base) A.d_negative
  have minus := ok_minus A.d_minus plus neg
  have times := ok_times A.d_times low
  have div := ok_div A.d_divided low
  have isop := ok_isOp (P := P) (w := w) (base := base) T A.d_is_operation
  have used := ok_used A.d_used_lines isop
  have repl := ok_repl T A.d_with_lines_replaced isop used
  have rdc := ok_rdC T A.d_read_constant low
  have rdl := ok_rdL T A.d_read_line rdc
  have rdls := ok_rdLs T A.d_read_lines rdl
  have row := ok_row (P := P) (w := w) (base := base) T A.d_number_row
  have early := ok_early T A.d_uses_only_earlier used
  have opv := ok_opv T A.d_operation_value plus minus times div neg
  have depth := ok_depth T A.d_depth isop used
  have cnt := ok_cnt T A.d_three_counts isop depth
  have worth := ok_worth (P := P) (w := w) (base := base) T A.d_is_worth
  have isneg := ok_isNeg (P := P) (w := w) (base := base) T A.d_is_negative
  have sumi := ok_sumI T A.d_sum_identity worth isneg
  have diffi := ok_diffI T A.d_difference_identity worth isneg
  have prodi := ok_prodI T A.d_product_identity worth
  have quoti := ok_quotI T A.d_quotient_identity worth
  have negi := ok_negI (P := P) (w := w) (base := base) T A.d_negative_identity
  have ident := ok_ident T A.d_identity sumi diffi prodi quoti negi
  have fold := ok_fold T A.d_folded isop used opv wgt
  have one := ok_one T A.d_one_step fold ident
  have sett := ok_set T A.d_settled one
  have ord := ok_ord (P := P) (w := w) (base := base) T A.d_in_shared_order
  have putf := ok_put T A.d_put ord
  have anew := ok_anew T TM A.d_lines_anew sett repl putf
  have need := ok_need T A.d_needed_lines used
  have dead := ok_dead T TM A.d_without_dead need repl
  have make := ok_make T A.d_make anew dead
  have point := ok_point T A.d_read_point low
  have lval := ok_lval T A.d_line_value used opv
  have fault := ok_fault T A.glo2 A.d_fault_of wgt
  have run := ok_run T A.glo2 TR A.d_run_lines lval fault
  have ismode := ok_isMode (P := P) (w := w) (base := base) T A.d_is_mode
  have crow := ok_codeRow T A.d_code_row row
  have isline := ok_isLine (P := P) (w := w) (base := base) T TH A.m_is_line
  have nouts := ok_newOuts (P := P) (w := w) (base := base) T TH TM A.m_new_outs
  have M : HM P w K mg base CH := ⟨ok_holdCode T A.glo3 TH A.m_hold_code rdls early, ok_holdOuts T A.glo3 TH A.m_hold_outs isline, ok_tSmall T A.glo3 TH TM A.m_tell_small ismode make crow nouts, ok_tMap T A.glo3 TH TM A.m_tell_map ismode make,
    ok_tCounts T A.glo3 TH TM A.m_tell_counts ismode make cnt, ok_tAlike T A.glo3 TH TM A.m_tell_alike ismode anew isline, ok_holdMade T A.glo3 TH TM A.m_hold_made ismode make nouts, ok_tLines T TH A.m_tell_lines crow, ok_tRun T A.glo2 A.glo3 TH TR A.m_tell_run point run⟩
  have done := ok_isDone (P := P) (w := w) (base := base) T TD A.m_is_done
  have tnum := ok_takeN (P := P) (w := w) (base := base) T TD A.m_take_number
  have trow := ok_takeR T TD A.m_take_row tnum
  have next := ok_next T A.glo4 TH TD A.d_answer_next M tnum trow
  exact ok_answers T TH TD iH iD Df0 next done
theorem ans_mk {h : Heap} {fa f CM CR CH CD : Addr} {oc : Value} {od an : Option Addr} {sl : Array (Option Value)} {kV dc pm cd ct : Value} (X : K.In h) (G : h.Ns mainGlobals mg) (hfa : mg "answers" = some (.ref fa)) (A : AllD K mg CM CR CH CD)
    (a : PySem.W.nsIn K mainGlobals "answers" = some (some (.ref f))) (l : K.lookup f = some ⟨oc, od, .func (PySem.W.fnOf "answers" "answers" (defArgs sAnswers) (defBody sAnswers) (defScope sAnswers) .none kV dc pm an cd ct), sl⟩) (c : PySem.W.codeIn K cd "answers" = true) (k : PySem.W.keepIn K (.ref f) = true) :
    ∃ fd : FuncData, (∀ (s : Shared) (us : List Value), us.length = (["calls"] : List Str).length → BindsTo s fd ⟨us, []⟩ ((["calls"] : List Str).zip us)) ∧ ∀ base : Heap, K.In base → base.Ns mainGlobals mg → FnOk P w K mg base CX0 13 fa fd ["calls"] (spAnswers K) := by
  have e := hfa.symm.trans (PySem.W.mg_of X G a)
  cases e
  have F := fun_mk (st := sAnswers) l c k
  have b := F.binds (ps := ["calls"]) fun _ _ _ _ _ _ us hl => match us, hl with | [_], _ => rfl
  exact ⟨PySem.W.fnOf "answers" "answers" (defArgs sAnswers) (defBody sAnswers) (defScope sAnswers) .none kV dc pm an cd ct, fun s us hu => match us, hu with | [_], _ => .of_eq rfl, fun base _ _ => all_ok A ⟨F, b, hfa⟩⟩
theorem bn_greatest_divisor : ∀ (kV doc pm : Value) (an : Option Addr) (cdv ct : Value) (us : List Value), us.length = (["left", "right"] : List Str).length → bindArgs (PySem.W.fnOf "greatest_divisor" "greatest_divisor" (defArgs sGcd) (defBody sGcd) (defScope sGcd) .none kV doc pm an cdv ct) ⟨us, []⟩ = pure ((["left", "right"] : List Str).zip us) := fun _ _ _ _ _ _ us hl => match us, hl with | [_, _], _ => rfl
theorem bn_lowest : ∀ (kV doc pm : Value) (an : Option Addr) (cdv ct : Value) (us : List Value), us.length = (["top", "bottom"] : List Str).length → bindArgs (PySem.W.fnOf "lowest" "lowest" (defArgs sLow) (defBody sLow) (defScope sLow) .none kV doc pm an cdv ct) ⟨us, []⟩ = pure ((["top", "bottom"] : List Str).zip us) := fun _ _ _ _ _ _ us hl => match us, hl with | [_, _], _ => rfl
theorem bn_weight : ∀ (kV doc pm : Value) (an : Option Addr) (cdv ct : Value) (us : List Value), us.length = (["value"] : List Str).length → bindArgs (PySem.W.fnOf "weight" "weight" (defArgs sWgt) (defBody sWgt) (defScope sWgt) .none kV doc pm an cdv ct) ⟨us, []⟩ = pure ((["value"] : List Str).zip us) := fun _ _ _ _ _ _ us hl => match us, hl with | [_], _ => rfl
theorem bn_plus : ∀ (kV doc pm : Value) (an : Option Addr) (cdv ct : Value) (us : List Value), us.length = (["left", "right"] : List Str).length → bindArgs (PySem.W.fnOf "plus" "plus" (defArgs sPlus) (defBody sPlus) (defScope sPlus) .none kV doc pm an cdv ct) ⟨us, []⟩ = pure ((["left", "right"] : List Str).zip us) := fun _ _ _ _ _ _ us hl => match us, hl with | [_, _], _ => rfl
theorem bn_negative : ∀ (kV doc pm : Value) (an : Option Addr) (cdv ct : Value) (us : List Value), us.length = (["value"] : List Str).length → bindArgs (PySem.W.fnOf "negative" "negative" (defArgs sNeg) (defBody sNeg) (defScope sNeg) .none kV doc pm an cdv ct) ⟨us, []⟩ = pure ((["value"] : List Str).zip us) := fun _ _ _ _ _ _ us hl => match us, hl with | [_], _ => rfl
theorem bn_minus : ∀ (kV doc pm : Value) (an : Option Addr) (cdv ct : Value) (us : List Value), us.length = (["left", "right"] : List Str).length → bindArgs (PySem.W.fnOf "minus" "minus" (defArgs sMinus) (defBody sMinus) (defScope sMinus) .none kV doc pm an cdv ct) ⟨us, []⟩ = pure ((["left", "right"] : List Str).zip us) := fun _ _ _ _ _ _ us hl => match us, hl with | [_, _], _ => rfl
theorem bn_times : ∀ (kV doc pm : Value) (an : Option Addr) (cdv ct : Value) (us : List Value), us.length = (["left", "right"] : List Str).length → bindArgs (PySem.W.fnOf "times" "times" (defArgs sTimes) (defBody sTimes) (defScope sTimes) .none kV doc pm an cdv ct) ⟨us, []⟩ = pure ((["left", "right"] : List Str).zip us) := fun _ _ _ _ _ _ us hl => match us, hl with | [_, _], _ => rfl
theorem bn_divided : ∀ (kV doc pm : Value) (an : Option Addr) (cdv ct : Value) (us : List Value), us.length = (["left", "right"] : List Str).length → bindArgs (PySem.W.fnOf "divided" "divided" (defArgs sDiv) (defBody sDiv) (defScope sDiv) .none kV doc pm an cdv ct) ⟨us, []⟩ = pure ((["left", "right"] : List Str).zip us) := fun _ _ _ _ _ _ us hl => match us, hl with | [_, _], _ => rfl
theorem bn_is_operation : ∀ (kV doc pm : Value) (an : Option Addr) (cdv ct : Value) (us : List Value), us.length = (["line"] : List Str).length → bindArgs (PySem.W.fnOf "is_operation" "is_operation" (defArgs sIsOp) (defBody sIsOp) (defScope sIsOp) .none kV doc pm an cdv ct) ⟨us, []⟩ = pure ((["line"] : List Str).zip us) := fun _ _ _ _ _ _ us hl => match us, hl with | [_], _ => rfl
theorem bn_used_lines : ∀ (kV doc pm : Value) (an : Option Addr) (cdv ct : Value) (us : List Value), us.length = (["line"] : List Str).length → bindArgs (PySem.W.fnOf "used_lines" "used_lines" (defArgs sUsed) (defBody sUsed) (defScope sUsed) .none kV doc pm an cdv ct) ⟨us, []⟩ = pure ((["line"] : List Str).zip us) := fun _ _ _ _ _ _ us hl => match us, hl with | [_], _ => rfl
theorem bn_with_lines_replaced : ∀ (kV doc pm : Value) (an : Option Addr) (cdv ct : Value) (us : List Value), us.length = (["line", "numbers"] : List Str).length → bindArgs (PySem.W.fnOf "with_lines_replaced" "with_lines_replaced" (defArgs sRepl) (defBody sRepl) (defScope sRepl) .none kV doc pm an cdv ct) ⟨us, []⟩ = pure ((["line", "numbers"] : List Str).zip us) := fun _ _ _ _ _ _ us hl => match us, hl with | [_, _], _ => rfl
theorem bn_read_constant : ∀ (kV doc pm : Value) (an : Option Addr) (cdv ct : Value) (us : List Value), us.length = (["numbers"] : List Str).length → bindArgs (PySem.W.fnOf "read_constant" "read_constant" (defArgs sRdC) (defBody sRdC) (defScope sRdC) .none kV doc pm an cdv ct) ⟨us, []⟩ = pure ((["numbers"] : List Str).zip us) := fun _ _ _ _ _ _ us hl => match us, hl with | [_], _ => rfl
theorem bn_read_line : ∀ (kV doc pm : Value) (an : Option Addr) (cdv ct : Value) (us : List Value), us.length = (["row", "at"] : List Str).length → bindArgs (PySem.W.fnOf "read_line" "read_line" (defArgs sRdL) (defBody sRdL) (defScope sRdL) .none kV doc pm an cdv ct) ⟨us, []⟩ = pure ((["row", "at"] : List Str).zip us) := fun _ _ _ _ _ _ us hl => match us, hl with | [_, _], _ => rfl
theorem bn_read_lines : ∀ (kV doc pm : Value) (an : Option Addr) (cdv ct : Value) (us : List Value), us.length = (["row"] : List Str).length → bindArgs (PySem.W.fnOf "read_lines" "read_lines" (defArgs sRdLs) (defBody sRdLs) (defScope sRdLs) .none kV doc pm an cdv ct) ⟨us, []⟩ = pure ((["row"] : List Str).zip us) := fun _ _ _ _ _ _ us hl => match us, hl with | [_], _ => rfl
theorem bn_number_row : ∀ (kV doc pm : Value) (an : Option Addr) (cdv ct : Value) (us : List Value), us.length = (["lines"] : List Str).length → bindArgs (PySem.W.fnOf "number_row" "number_row" (defArgs sRow) (defBody sRow) (defScope sRow) .none kV doc pm an cdv ct) ⟨us, []⟩ = pure ((["lines"] : List Str).zip us) := fun _ _ _ _ _ _ us hl => match us, hl with | [_], _ => rfl
theorem bn_uses_only_earlier : ∀ (kV doc pm : Value) (an : Option Addr) (cdv ct : Value) (us : List Value), us.length = (["lines", "inputs"] : List Str).length → bindArgs (PySem.W.fnOf "uses_only_earlier" "uses_only_earlier" (defArgs sEarly) (defBody sEarly) (defScope sEarly) .none kV doc pm an cdv ct) ⟨us, []⟩ = pure ((["lines", "inputs"] : List Str).zip us) := fun _ _ _ _ _ _ us hl => match us, hl with | [_, _], _ => rfl
theorem bn_operation_value : ∀ (kV doc pm : Value) (an : Option Addr) (cdv ct : Value) (us : List Value), us.length = (["kind", "values"] : List Str).length → bindArgs (PySem.W.fnOf "operation_value" "operation_value" (defArgs sOpV) (defBody sOpV) (defScope sOpV) .none kV doc pm an cdv ct) ⟨us, []⟩ = pure ((["kind", "values"] : List Str).zip us) := fun _ _ _ _ _ _ us hl => match us, hl with | [_, _], _ => rfl
theorem bn_depth : ∀ (kV doc pm : Value) (an : Option Addr) (cdv ct : Value) (us : List Value), us.length = (["lines"] : List Str).length → bindArgs (PySem.W.fnOf "depth" "depth" (defArgs sDepth) (defBody sDepth) (defScope sDepth) .none kV doc pm an cdv ct) ⟨us, []⟩ = pure ((["lines"] : List Str).zip us) := fun _ _ _ _ _ _ us hl => match us, hl with | [_], _ => rfl
theorem bn_three_counts : ∀ (kV doc pm : Value) (an : Option Addr) (cdv ct : Value) (us : List Value), us.length = (["lines"] : List Str).length → bindArgs (PySem.W.fnOf "three_counts" "three_counts" (defArgs sCnt) (defBody sCnt) (defScope sCnt) .none kV doc pm an cdv ct) ⟨us, []⟩ = pure ((["lines"] : List Str).zip us) := fun _ _ _ _ _ _ us hl => match us, hl with | [_], _ => rfl
theorem bn_is_worth : ∀ (kV doc pm : Value) (an : Option Addr) (cdv ct : Value) (us : List Value), us.length = (["made", "number", "value"] : List Str).length → bindArgs (PySem.W.fnOf "is_worth" "is_worth" (defArgs sWorth) (defBody sWorth) (defScope sWorth) .none kV doc pm an cdv ct) ⟨us, []⟩ = pure ((["made", "number", "value"] : List Str).zip us) := fun _ _ _ _ _ _ us hl => match us, hl with | [_, _, _], _ => rfl
theorem bn_is_negative : ∀ (kV doc pm : Value) (an : Option Addr) (cdv ct : Value) (us : List Value), us.length = (["made", "number"] : List Str).length → bindArgs (PySem.W.fnOf "is_negative" "is_negative" (defArgs sIsNeg) (defBody sIsNeg) (defScope sIsNeg) .none kV doc pm an cdv ct) ⟨us, []⟩ = pure ((["made", "number"] : List Str).zip us) := fun _ _ _ _ _ _ us hl => match us, hl with | [_, _], _ => rfl
theorem bn_sum_identity : ∀ (kV doc pm : Value) (an : Option Addr) (cdv ct : Value) (us : List Value), us.length = (["made", "a", "b"] : List Str).length → bindArgs (PySem.W.fnOf "sum_identity" "sum_identity" (defArgs sSumI) (defBody sSumI) (defScope sSumI) .none kV doc pm an cdv ct) ⟨us, []⟩ = pure ((["made", "a", "b"] : List Str).zip us) := fun _ _ _ _ _ _ us hl => match us, hl with | [_, _, _], _ => rfl
theorem bn_difference_identity : ∀ (kV doc pm : Value) (an : Option Addr) (cdv ct : Value) (us : List Value), us.length = (["made", "a", "b"] : List Str).length → bindArgs (PySem.W.fnOf "difference_identity" "difference_identity" (defArgs sDiffI) (defBody sDiffI) (defScope sDiffI) .none kV doc pm an cdv ct) ⟨us, []⟩ = pure ((["made", "a", "b"] : List Str).zip us) := fun _ _ _ _ _ _ us hl => match us, hl with | [_, _, _], _ => rfl
theorem bn_product_identity : ∀ (kV doc pm : Value) (an : Option Addr) (cdv ct : Value) (us : List Value), us.length = (["made", "a", "b"] : List Str).length → bindArgs (PySem.W.fnOf "product_identity" "product_identity" (defArgs sProdI) (defBody sProdI) (defScope sProdI) .none kV doc pm an cdv ct) ⟨us, []⟩ = pure ((["made", "a", "b"] : List Str).zip us) := fun _ _ _ _ _ _ us hl => match us, hl with | [_, _, _], _ => rfl
theorem bn_quotient_identity : ∀ (kV doc pm : Value) (an : Option Addr) (cdv ct : Value) (us : List Value), us.length = (["made", "a", "b"] : List Str).length → bindArgs (PySem.W.fnOf "quotient_identity" "quotient_identity" (defArgs sQuotI) (defBody sQuotI) (defScope sQuotI) .none kV doc pm an cdv ct) ⟨us, []⟩ = pure ((["made", "a", "b"] : List Str).zip us) := fun _ _ _ _ _ _ us hl => match us, hl with | [_, _, _], _ => rfl
theorem bn_negative_identity : ∀ (kV doc pm : Value) (an : Option Addr) (cdv ct : Value) (us : List Value), us.length = (["made", "a"] : List Str).length → bindArgs (PySem.W.fnOf "negative_identity" "negative_identity" (defArgs sNegI) (defBody sNegI) (defScope sNegI) .none kV doc pm an cdv ct) ⟨us, []⟩ = pure ((["made", "a"] : List Str).zip us) := fun _ _ _ _ _ _ us hl => match us, hl with | [_, _], _ => rfl
theorem bn_identity : ∀ (kV doc pm : Value) (an : Option Addr) (cdv ct : Value) (us : List Value), us.length = (["made", "line"] : List Str).length → bindArgs (PySem.W.fnOf "identity" "identity" (defArgs sIdent) (defBody sIdent) (defScope sIdent) .none kV doc pm an cdv ct) ⟨us, []⟩ = pure ((["made", "line"] : List Str).zip us) := fun _ _ _ _ _ _ us hl => match us, hl with | [_, _], _ => rfl
theorem bn_folded : ∀ (kV doc pm : Value) (an : Option Addr) (cdv ct : Value) (us : List Value), us.length = (["made", "line"] : List Str).length → bindArgs (PySem.W.fnOf "folded" "folded" (defArgs sFold) (defBody sFold) (defScope sFold) .none kV doc pm an cdv ct) ⟨us, []⟩ = pure ((["made", "line"] : List Str).zip us) := fun _ _ _ _ _ _ us hl => match us, hl with | [_, _], _ => rfl
theorem bn_one_step : ∀ (kV doc pm : Value) (an : Option Addr) (cdv ct : Value) (us : List Value), us.length = (["made", "line", "mode"] : List Str).length → bindArgs (PySem.W.fnOf "one_step" "one_step" (defArgs sOne) (defBody sOne) (defScope sOne) .none kV doc pm an cdv ct) ⟨us, []⟩ = pure ((["made", "line", "mode"] : List Str).zip us) := fun _ _ _ _ _ _ us hl => match us, hl with | [_, _, _], _ => rfl
theorem bn_settled : ∀ (kV doc pm : Value) (an : Option Addr) (cdv ct : Value) (us : List Value), us.length = (["made", "line", "mode"] : List Str).length → bindArgs (PySem.W.fnOf "settled" "settled" (defArgs sSettled) (defBody sSettled) (defScope sSettled) .none kV doc pm an cdv ct) ⟨us, []⟩ = pure ((["made", "line", "mode"] : List Str).zip us) := fun _ _ _ _ _ _ us hl => match us, hl with | [_, _, _], _ => rfl
theorem bn_in_shared_order : ∀ (kV doc pm : Value) (an : Option Addr) (cdv ct : Value) (us : List Value), us.length = (["line"] : List Str).length → bindArgs (PySem.W.fnOf "in_shared_order" "in_shared_order" (defArgs sOrder) (defBody sOrder) (defScope sOrder) .none kV doc pm an cdv ct) ⟨us, []⟩ = pure ((["line"] : List Str).zip us) := fun _ _ _ _ _ _ us hl => match us, hl with | [_], _ => rfl
theorem bn_put : ∀ (kV doc pm : Value) (an : Option Addr) (cdv ct : Value) (us : List Value), us.length = (["made", "places", "line", "mode"] : List Str).length → bindArgs (PySem.W.fnOf "put" "put" (defArgs sPut) (defBody sPut) (defScope sPut) .none kV doc pm an cdv ct) ⟨us, []⟩ = pure ((["made", "places", "line", "mode"] : List Str).zip us) := fun _ _ _ _ _ _ us hl => match us, hl with | [_, _, _, _], _ => rfl
theorem bn_lines_anew : ∀ (kV doc pm : Value) (an : Option Addr) (cdv ct : Value) (us : List Value), us.length = (["lines", "mode"] : List Str).length → bindArgs (PySem.W.fnOf "lines_anew" "lines_anew" (defArgs sAnew) (defBody sAnew) (defScope sAnew) .none kV doc pm an cdv ct) ⟨us, []⟩ = pure ((["lines", "mode"] : List Str).zip us) := fun _ _ _ _ _ _ us hl => match us, hl with | [_, _], _ => rfl
theorem bn_needed_lines : ∀ (kV doc pm : Value) (an : Option Addr) (cdv ct : Value) (us : List Value), us.length = (["lines", "outs"] : List Str).length → bindArgs (PySem.W.fnOf "needed_lines" "needed_lines" (defArgs sNeeded) (defBody sNeeded) (defScope sNeeded) .none kV doc pm an cdv ct) ⟨us, []⟩ = pure ((["lines", "outs"] : List Str).zip us) := fun _ _ _ _ _ _ us hl => match us, hl with | [_, _], _ => rfl
theorem bn_without_dead : ∀ (kV doc pm : Value) (an : Option Addr) (cdv ct : Value) (us : List Value), us.length = (["made", "outs"] : List Str).length → bindArgs (PySem.W.fnOf "without_dead" "without_dead" (defArgs sDead) (defBody sDead) (defScope sDead) .none kV doc pm an cdv ct) ⟨us, []⟩ = pure ((["made", "outs"] : List Str).zip us) := fun _ _ _ _ _ _ us hl => match us, hl with | [_, _], _ => rfl
theorem bn_make : ∀ (kV doc pm : Value) (an : Option Addr) (cdv ct : Value) (us : List Value), us.length = (["lines", "outs", "mode"] : List Str).length → bindArgs (PySem.W.fnOf "make" "make" (defArgs sMake) (defBody sMake) (defScope sMake) .none kV doc pm an cdv ct) ⟨us, []⟩ = pure ((["lines", "outs", "mode"] : List Str).zip us) := fun _ _ _ _ _ _ us hl => match us, hl with | [_, _, _], _ => rfl
theorem bn_read_point : ∀ (kV doc pm : Value) (an : Option Addr) (cdv ct : Value) (us : List Value), us.length = (["row", "inputs"] : List Str).length → bindArgs (PySem.W.fnOf "read_point" "read_point" (defArgs sPoint) (defBody sPoint) (defScope sPoint) .none kV doc pm an cdv ct) ⟨us, []⟩ = pure ((["row", "inputs"] : List Str).zip us) := fun _ _ _ _ _ _ us hl => match us, hl with | [_, _], _ => rfl
theorem bn_line_value : ∀ (kV doc pm : Value) (an : Option Addr) (cdv ct : Value) (us : List Value), us.length = (["line", "before", "point"] : List Str).length → bindArgs (PySem.W.fnOf "line_value" "line_value" (defArgs sLVal) (defBody sLVal) (defScope sLVal) .none kV doc pm an cdv ct) ⟨us, []⟩ = pure ((["line", "before", "point"] : List Str).zip us) := fun _ _ _ _ _ _ us hl => match us, hl with | [_, _, _], _ => rfl
theorem bn_fault_of : ∀ (kV doc pm : Value) (an : Option Addr) (cdv ct : Value) (us : List Value), us.length = (["value"] : List Str).length → bindArgs (PySem.W.fnOf "fault_of" "fault_of" (defArgs sFault) (defBody sFault) (defScope sFault) .none kV doc pm an cdv ct) ⟨us, []⟩ = pure ((["value"] : List Str).zip us) := fun _ _ _ _ _ _ us hl => match us, hl with | [_], _ => rfl
theorem bn_run_lines : ∀ (kV doc pm : Value) (an : Option Addr) (cdv ct : Value) (us : List Value), us.length = (["lines", "point"] : List Str).length → bindArgs (PySem.W.fnOf "run_lines" "run_lines" (defArgs sRun) (defBody sRun) (defScope sRun) .none kV doc pm an cdv ct) ⟨us, []⟩ = pure ((["lines", "point"] : List Str).zip us) := fun _ _ _ _ _ _ us hl => match us, hl with | [_, _], _ => rfl
theorem bn_is_mode : ∀ (kV doc pm : Value) (an : Option Addr) (cdv ct : Value) (us : List Value), us.length = (["mode"] : List Str).length → bindArgs (PySem.W.fnOf "is_mode" "is_mode" (defArgs sIsMode) (defBody sIsMode) (defScope sIsMode) .none kV doc pm an cdv ct) ⟨us, []⟩ = pure ((["mode"] : List Str).zip us) := fun _ _ _ _ _ _ us hl => match us, hl with | [_], _ => rfl
theorem bn_code_row : ∀ (kV doc pm : Value) (an : Option Addr) (cdv ct : Value) (us : List Value), us.length = (["lines", "outs"] : List Str).length → bindArgs (PySem.W.fnOf "code_row" "code_row" (defArgs sCodeRow) (defBody sCodeRow) (defScope sCodeRow) .none kV doc pm an cdv ct) ⟨us, []⟩ = pure ((["lines", "outs"] : List Str).zip us) := fun _ _ _ _ _ _ us hl => match us, hl with | [_, _], _ => rfl
theorem bn_answer_next : ∀ (kV doc pm : Value) (an : Option Addr) (cdv ct : Value) (us : List Value), us.length = (["holder", "reader"] : List Str).length → bindArgs (PySem.W.fnOf "answer_next" "answer_next" (defArgs sNext) (defBody sNext) (defScope sNext) .none kV doc pm an cdv ct) ⟨us, []⟩ = pure ((["holder", "reader"] : List Str).zip us) := fun _ _ _ _ _ _ us hl => match us, hl with | [_, _], _ => rfl
theorem bm_is_line : ∀ (kV doc pm : Value) (an : Option Addr) (cdv ct : Value) (us : List Value), us.length = (["self", "number"] : List Str).length → bindArgs (PySem.W.fnOf "is_line" "Holder.is_line" (defArgs sIsLine) (defBody sIsLine) (defScope sIsLine) .none kV doc pm an cdv ct) ⟨us, []⟩ = pure ((["self", "number"] : List Str).zip us) := fun _ _ _ _ _ _ us hl => match us, hl with | [_, _], _ => rfl
theorem bm_new_outs : ∀ (kV doc pm : Value) (an : Option Addr) (cdv ct : Value) (us : List Value), us.length = (["self", "made"] : List Str).length → bindArgs (PySem.W.fnOf "new_outs" "Holder.new_outs" (defArgs sNewOuts) (defBody sNewOuts) (defScope sNewOuts) .none kV doc pm an cdv ct) ⟨us, []⟩ = pure ((["self", "made"] : List Str).zip us) := fun _ _ _ _ _ _ us hl => match us, hl with | [_, _], _ => rfl
theorem bm_hold_code : ∀ (kV doc pm : Value) (an : Option Addr) (cdv ct : Value) (us : List Value), us.length = (["self", "inputs", "row"] : List Str).length → bindArgs (PySem.W.fnOf "hold_code" "Holder.hold_code" (defArgs sHoldCode) (defBody sHoldCode) (defScope sHoldCode) .none kV doc pm an cdv ct) ⟨us, []⟩ = pure ((["self", "inputs", "row"] : List Str).zip us) := fun _ _ _ _ _ _ us hl => match us, hl with | [_, _, _], _ => rfl
theorem bm_hold_outs : ∀ (kV doc pm : Value) (an : Option Addr) (cdv ct : Value) (us : List Value), us.length = (["self", "outs"] : List Str).length → bindArgs (PySem.W.fnOf "hold_outs" "Holder.hold_outs" (defArgs sHoldOuts) (defBody sHoldOuts) (defScope sHoldOuts) .none kV doc pm an cdv ct) ⟨us, []⟩ = pure ((["self", "outs"] : List Str).zip us) := fun _ _ _ _ _ _ us hl => match us, hl with | [_, _], _ => rfl
theorem bm_tell_small : ∀ (kV doc pm : Value) (an : Option Addr) (cdv ct : Value) (us : List Value), us.length = (["self", "mode"] : List Str).length → bindArgs (PySem.W.fnOf "tell_small" "Holder.tell_small" (defArgs sTSmall) (defBody sTSmall) (defScope sTSmall) .none kV doc pm an cdv ct) ⟨us, []⟩ = pure ((["self", "mode"] : List Str).zip us) := fun _ _ _ _ _ _ us hl => match us, hl with | [_, _], _ => rfl
theorem bm_tell_map : ∀ (kV doc pm : Value) (an : Option Addr) (cdv ct : Value) (us : List Value), us.length = (["self", "mode"] : List Str).length → bindArgs (PySem.W.fnOf "tell_map" "Holder.tell_map" (defArgs sTMap) (defBody sTMap) (defScope sTMap) .none kV doc pm an cdv ct) ⟨us, []⟩ = pure ((["self", "mode"] : List Str).zip us) := fun _ _ _ _ _ _ us hl => match us, hl with | [_, _], _ => rfl
theorem bm_tell_counts : ∀ (kV doc pm : Value) (an : Option Addr) (cdv ct : Value) (us : List Value), us.length = (["self", "mode"] : List Str).length → bindArgs (PySem.W.fnOf "tell_counts" "Holder.tell_counts" (defArgs sTCounts) (defBody sTCounts) (defScope sTCounts) .none kV doc pm an cdv ct) ⟨us, []⟩ = pure ((["self", "mode"] : List Str).zip us) := fun _ _ _ _ _ _ us hl => match us, hl with | [_, _], _ => rfl
theorem bm_tell_alike : ∀ (kV doc pm : Value) (an : Option Addr) (cdv ct : Value) (us : List Value), us.length = (["self", "mode", "first", "second"] : List Str).length → bindArgs (PySem.W.fnOf "tell_alike" "Holder.tell_alike" (defArgs sTAlike) (defBody sTAlike) (defScope sTAlike) .none kV doc pm an cdv ct) ⟨us, []⟩ = pure ((["self", "mode", "first", "second"] : List Str).zip us) := fun _ _ _ _ _ _ us hl => match us, hl with | [_, _, _, _], _ => rfl
theorem bm_hold_made : ∀ (kV doc pm : Value) (an : Option Addr) (cdv ct : Value) (us : List Value), us.length = (["self", "mode"] : List Str).length → bindArgs (PySem.W.fnOf "hold_made" "Holder.hold_made" (defArgs sHoldMade) (defBody sHoldMade) (defScope sHoldMade) .none kV doc pm an cdv ct) ⟨us, []⟩ = pure ((["self", "mode"] : List Str).zip us) := fun _ _ _ _ _ _ us hl => match us, hl with | [_, _], _ => rfl
theorem bm_tell_lines : ∀ (kV doc pm : Value) (an : Option Addr) (cdv ct : Value) (us : List Value), us.length = (["self"] : List Str).length → bindArgs (PySem.W.fnOf "tell_lines" "Holder.tell_lines" (defArgs sTLines) (defBody sTLines) (defScope sTLines) .none kV doc pm an cdv ct) ⟨us, []⟩ = pure ((["self"] : List Str).zip us) := fun _ _ _ _ _ _ us hl => match us, hl with | [_], _ => rfl
theorem bm_tell_run : ∀ (kV doc pm : Value) (an : Option Addr) (cdv ct : Value) (us : List Value), us.length = (["self", "row"] : List Str).length → bindArgs (PySem.W.fnOf "tell_run" "Holder.tell_run" (defArgs sTRun) (defBody sTRun) (defScope sTRun) .none kV doc pm an cdv ct) ⟨us, []⟩ = pure ((["self", "row"] : List Str).zip us) := fun _ _ _ _ _ _ us hl => match us, hl with | [_, _], _ => rfl
theorem bm_is_done : ∀ (kV doc pm : Value) (an : Option Addr) (cdv ct : Value) (us : List Value), us.length = (["self"] : List Str).length → bindArgs (PySem.W.fnOf "is_done" "Reader.is_done" (defArgs sIsDone) (defBody sIsDone) (defScope sIsDone) .none kV doc pm an cdv ct) ⟨us, []⟩ = pure ((["self"] : List Str).zip us) := fun _ _ _ _ _ _ us hl => match us, hl with | [_], _ => rfl
theorem bm_take_number : ∀ (kV doc pm : Value) (an : Option Addr) (cdv ct : Value) (us : List Value), us.length = (["self"] : List Str).length → bindArgs (PySem.W.fnOf "take_number" "Reader.take_number" (defArgs sTakeN) (defBody sTakeN) (defScope sTakeN) .none kV doc pm an cdv ct) ⟨us, []⟩ = pure ((["self"] : List Str).zip us) := fun _ _ _ _ _ _ us hl => match us, hl with | [_], _ => rfl
theorem bm_take_row : ∀ (kV doc pm : Value) (an : Option Addr) (cdv ct : Value) (us : List Value), us.length = (["self"] : List Str).length → bindArgs (PySem.W.fnOf "take_row" "Reader.take_row" (defArgs sTakeR) (defBody sTakeR) (defScope sTakeR) .none kV doc pm an cdv ct) ⟨us, []⟩ = pure ((["self"] : List Str).zip us) := fun _ _ _ _ _ _ us hl => match us, hl with | [_], _ => rfl
theorem bi_Made : ∀ (kV doc pm : Value) (an : Option Addr) (cdv ct : Value) (us : List Value), us.length = (["self", "lines", "went"] : List Str).length → bindArgs (PySem.W.fnOf "__init__" "Made.__init__" (defArgs sMadeI) (defBody sMadeI) (defScope sMadeI) .none kV doc pm an cdv ct) ⟨us, []⟩ = pure ((["self", "lines", "went"] : List Str).zip us) := fun _ _ _ _ _ _ us hl => match us, hl with | [_, _, _], _ => rfl
theorem bi_Run : ∀ (kV doc pm : Value) (an : Option Addr) (cdv ct : Value) (us : List Value), us.length = (["self", "worked_out", "fault"] : List Str).length → bindArgs (PySem.W.fnOf "__init__" "Run.__init__" (defArgs sRunI) (defBody sRunI) (defScope sRunI) .none kV doc pm an cdv ct) ⟨us, []⟩ = pure ((["self", "worked_out", "fault"] : List Str).zip us) := fun _ _ _ _ _ _ us hl => match us, hl with | [_, _, _], _ => rfl
theorem bi_Holder : ∀ (kV doc pm : Value) (an : Option Addr) (cdv ct : Value) (us : List Value), us.length = (["self"] : List Str).length → bindArgs (PySem.W.fnOf "__init__" "Holder.__init__" (defArgs sHInit) (defBody sHInit) (defScope sHInit) .none kV doc pm an cdv ct) ⟨us, []⟩ = pure ((["self"] : List Str).zip us) := fun _ _ _ _ _ _ us hl => match us, hl with | [_], _ => rfl
theorem bi_Reader : ∀ (kV doc pm : Value) (an : Option Addr) (cdv ct : Value) (us : List Value), us.length = (["self", "numbers"] : List Str).length → bindArgs (PySem.W.fnOf "__init__" "Reader.__init__" (defArgs sDInit) (defBody sDInit) (defScope sDInit) .none kV doc pm an cdv ct) ⟨us, []⟩ = pure ((["self", "numbers"] : List Str).zip us) := fun _ _ _ _ _ _ us hl => match us, hl with | [_, _], _ => rfl
structure B_Made (K : PySem.W.Frag) (mg : Str → Option Value) (C : Addr) : Prop where
  cl : Cls K C
  n_lines : NoAttr K C "lines"
  n_went : NoAttr K C "went"
  ini : Ix K mg "Made" "Made.__init__" sMadeI ["self", "lines", "went"] C
theorem mk_Made {h : Heap} {C : Addr} {f0 : Addr} {oc0 : Value} {od0 an0 : Option Addr} {sl0 : Array (Option Value)} {kV0 dc0 pm0 cd0 ct0 : Value} (X : K.In h) (G : h.Ns mainGlobals mg) (aC : PySem.W.nsIn K mainGlobals "Made" = some (some (.ref C))) (pg : PySem.W.plainGet K C Str.empty = true) (hd : PySem.W.hasDictIn K C = true) (po : PySem.W.plainOver K C = true) (sa : PySem.W.findIn K (.ref C) "__setattr__" = some (some (.builtin "object.__setattr__"))) (mk : PySem.W.makesIn K C = true) (kc : PySem.W.keepIn K (.ref C) = true) (q_lines : PySem.W.findIn K (.ref C) "lines" = some none) (q_went : PySem.W.findIn K (.ref C) "went" = some none)
    (a0 : PySem.W.findIn K (.ref C) "__init__" = some (some (.ref f0))) (i0 : PySem.W.isFn K (.ref f0) = true) (l0 : K.lookup f0 = some ⟨oc0, od0, .func (PySem.W.fnOf "__init__" "Made.__init__" (defArgs sMadeI) (defBody sMadeI) (defScope sMadeI) .none kV0 dc0 pm0 an0 cd0 ct0), sl0⟩) (c0 : PySem.W.codeIn K cd0 "Made.__init__" = true) (k0 : PySem.W.keepIn K (.ref f0) = true) : ∃ C, B_Made K mg C :=
  ⟨C, ⟨pg, hd, po, sa⟩, q_lines, q_went, ix_mk X G bi_Made aC mk kc a0 i0 l0 c0 k0⟩
structure B_Run (K : PySem.W.Frag) (mg : Str → Option Value) (C : Addr) : Prop where
  cl : Cls K C
  n_worked_out : NoAttr K C "worked_out"
  n_fault : NoAttr K C "fault"
  ini : Ix K mg "Run" "Run.__init__" sRunI ["self", "worked_out", "fault"] C
theorem mk_Run {h : Heap} {C : Addr} {f0 : Addr} {oc0 : Value} {od0 an0 : Option Addr} {sl0 : Array (Option Value)} {kV0 dc0 pm0 cd0 ct0 : Value} (X : K.In h) (G : h.Ns mainGlobals mg) (aC : PySem.W.nsIn K mainGlobals "Run" = some (some (.ref C))) (pg : PySem.W.plainGet K C Str.empty = true) (hd : PySem.W.hasDictIn K C = true) (po : PySem.W.plainOver K C = true) (sa : PySem.W.findIn K (.ref C) "__setattr__" = some (some (.builtin "object.__setattr__"))) (mk : PySem.W.makesIn K C = true) (kc : PySem.W.keepIn K (.ref C) = true) (q_worked_out : PySem.W.findIn K (.ref C) "worked_out" = some none) (q_fault : PySem.W.findIn K (.ref C) "fault" = some none)
    (a0 : PySem.W.findIn K (.ref C) "__init__" = some (some (.ref f0))) (i0 : PySem.W.isFn K (.ref f0) = true) (l0 : K.lookup f0 = some ⟨oc0, od0, .func (PySem.W.fnOf "__init__" "Run.__init__" (defArgs sRunI) (defBody sRunI) (defScope sRunI) .none kV0 dc0 pm0 an0 cd0 ct0), sl0⟩) (c0 : PySem.W.codeIn K cd0 "Run.__init__" = true) (k0 : PySem.W.keepIn K (.ref f0) = true) : ∃ C, B_Run K mg C :=
  ⟨C, ⟨pg, hd, po, sa⟩, q_worked_out, q_fault, ix_mk X G bi_Run aC mk kc a0 i0 l0 c0 k0⟩
structure B_Holder (K : PySem.W.Frag) (mg : Str → Option Value) (C : Addr) : Prop where
  cl : Cls K C
  n_inputs : NoAttr K C "inputs"
  n_lines : NoAttr K C "lines"
  n_outs : NoAttr K C "outs"
  ini : Ix K mg "Holder" "Holder.__init__" sHInit ["self"] C
  m_is_line : Mx K C "is_line" "Holder.is_line" sIsLine ["self", "number"]
  m_new_outs : Mx K C "new_outs" "Holder.new_outs" sNewOuts ["self", "made"]
  m_hold_code : Mx K C "hold_code" "Holder.hold_code" sHoldCode ["self", "inputs", "row"]
  m_hold_outs : Mx K C "hold_outs" "Holder.hold_outs" sHoldOuts ["self", "outs"]
  m_tell_small : Mx K C "tell_small" "Holder.tell_small" sTSmall ["self", "mode"]
  m_tell_map : Mx K C "tell_map" "Holder.tell_map" sTMap ["self", "mode"]
  m_tell_counts : Mx K C "tell_counts" "Holder.tell_counts" sTCounts ["self", "mode"]
  m_tell_alike : Mx K C "tell_alike" "Holder.tell_alike" sTAlike ["self", "mode", "first", "second"]
  m_hold_made : Mx K C "hold_made" "Holder.hold_made" sHoldMade ["self", "mode"]
  m_tell_lines : Mx K C "tell_lines" "Holder.tell_lines" sTLines ["self"]
  m_tell_run : Mx K C "tell_run" "Holder.tell_run" sTRun ["self", "row"]
theorem mk_Holder {h : Heap} {C : Addr} {f0 : Addr} {oc0 : Value} {od0 an0 : Option Addr} {sl0 : Array (Option Value)} {kV0 dc0 pm0 cd0 ct0 : Value} {f1 : Addr} {oc1 : Value} {od1 an1 : Option Addr} {sl1 : Array (Option Value)} {kV1 dc1 pm1 cd1 ct1 : Value} {f2 : Addr} {oc2 : Value} {od2 an2 : Option Addr} {sl2 : Array (Option Value)} {kV2 dc2 pm2 cd2 ct2 : Value} {f3 : Addr} {oc3 : Value} {od3 an3 : Option Addr} {sl3 : Array (Option Value)} {kV3 dc3 pm3 cd3 ct3 : Value} {f4 : Addr} {oc4 : Value} {od4 an4 : Option Addr} {sl4 : Array (Option Value)} {kV4 dc4 pm4 cd4 ct4 : Value} {f5 : Addr} {oc5 : Value} {od5 an5 : Option Addr} {sl5 : Array (Option Value)} {kV5 dc5 pm5 cd5 ct5 : Value} {f6 : Addr} {oc6 : Value} {od6 an6 : Option Addr} {sl6 : Array (Option Value)} {kV6 dc6 pm6 cd6 ct6 : Value} {f7 : Addr} {oc7 : Value} {od7 an7 : Option Addr} {sl7 : Array (Option Value)} {kV7 dc7 pm7 cd7 ct7 : Value} {f8 : Addr} {oc8 : Value} {od8 an8 : Option Addr} {sl8 : Array (Option Value)} {kV8 dc8 pm8 cd8 ct8 : Value} {f9 : Addr} {oc9 : Value} {od9 an9 : Option Addr} {sl9 : Array (Option Value)} {kV9 dc9 pm9 cd9 ct9 : Value} {f10 : Addr} {oc10 : Value} {od10 an10 : Option Addr} {sl10 : Array (Option Value)} {kV10 dc10 pm10 cd10 ct10 : Value} {f11 : Addr} {oc11 : Value} {od11 an11 : Option Addr} {sl11 : Array (Option Value)} {kV11 dc11 pm11 cd11 ct11 : Value} (X : K.In h) (G : h.Ns mainGlobals mg) (aC : PySem.W.nsIn K mainGlobals "Holder" = some (some (.ref C))) (pg : PySem.W.plainGet K C Str.empty = true) (hd : PySem.W.hasDictIn K C = true) (po : PySem.W.plainOver K C = true) (sa : PySem.W.findIn K (.ref C) "__setattr__" = some (some (.builtin "object.__setattr__"))) (mk : PySem.W.makesIn K C = true) (kc : PySem.W.keepIn K (.ref C) = true) (q_inputs : PySem.W.findIn K (.ref C) "inputs" = some none) (q_lines : PySem.W.findIn K (.ref C) "lines" = some none) (q_outs : PySem.W.findIn K (.ref C) "outs" = some none)
    (a0 : PySem.W.findIn K (.ref C) "__init__" = some (some (.ref f0))) (i0 : PySem.W.isFn K (.ref f0) = true) (l0 : K.lookup f0 = some ⟨oc0, od0, .func (PySem.W.fnOf "__init__" "Holder.__init__" (defArgs sHInit) (defBody sHInit) (defScope sHInit) .none kV0 dc0 pm0 an0 cd0 ct0), sl0⟩) (c0 : PySem.W.codeIn K cd0 "Holder.__init__" = true) (k0 : PySem.W.keepIn K (.ref f0) = true)
    (a1 : PySem.W.findIn K (.ref C) "is_line" = some (some (.ref f1))) (i1 : PySem.W.isFn K (.ref f1) = true) (l1 : K.lookup f1 = some ⟨oc1, od1, .func (PySem.W.fnOf "is_line" "Holder.is_line" (defArgs sIsLine) (defBody sIsLine) (defScope sIsLine) .none kV1 dc1 pm1 an1 cd1 ct1), sl1⟩) (c1 : PySem.W.codeIn K cd1 "Holder.is_line" = true) (k1 : PySem.W.keepIn K (.ref f1) = true)
    (a2 : PySem.W.findIn K (.ref C) "new_outs" = some (some (.ref f2))) (i2 : PySem.W.isFn K (.ref f2) = true) (l2 : K.lookup f2 = some ⟨oc2, od2, .func (PySem.W.fnOf "new_outs" "Holder.new_outs" (defArgs sNewOuts) (defBody sNewOuts) (defScope sNewOuts) .none kV2 dc2 pm2 an2 cd2 ct2), sl2⟩) (c2 : PySem.W.codeIn K cd2 "Holder.new_outs" = true) (k2 : PySem.W.keepIn K (.ref f2) = true)
    (a3 : PySem.W.findIn K (.ref C) "hold_code" = some (some (.ref f3))) (i3 : PySem.W.isFn K (.ref f3) = true) (l3 : K.lookup f3 = some ⟨oc3, od3, .func (PySem.W.fnOf "hold_code" "Holder.hold_code" (defArgs sHoldCode) (defBody sHoldCode) (defScope sHoldCode) .none kV3 dc3 pm3 an3 cd3 ct3), sl3⟩) (c3 : PySem.W.codeIn K cd3 "Holder.hold_code" = true) (k3 : PySem.W.keepIn K (.ref f3) = true)
    (a4 : PySem.W.findIn K (.ref C) "hold_outs" = some (some (.ref f4))) (i4 : PySem.W.isFn K (.ref f4) = true) (l4 : K.lookup f4 = some ⟨oc4, od4, .func (PySem.W.fnOf "hold_outs" "Holder.hold_outs" (defArgs sHoldOuts) (defBody sHoldOuts) (defScope sHoldOuts) .none kV4 dc4 pm4 an4 cd4 ct4), sl4⟩) (c4 : PySem.W.codeIn K cd4 "Holder.hold_outs" = true) (k4 : PySem.W.keepIn K (.ref f4) = true)
    (a5 : PySem.W.findIn K (.ref C) "tell_small" = some (some (.ref f5))) (i5 : PySem.W.isFn K (.ref f5) = true) (l5 : K.lookup f5 = some ⟨oc5, od5, .func (PySem.W.fnOf "tell_small" "Holder.tell_small" (defArgs sTSmall) (defBody sTSmall) (defScope sTSmall) .none kV5 dc5 pm5 an5 cd5 ct5), sl5⟩) (c5 : PySem.W.codeIn K cd5 "Holder.tell_small" = true) (k5 : PySem.W.keepIn K (.ref f5) = true)
    (a6 : PySem.W.findIn K (.ref C) "tell_map" = some (some (.ref f6))) (i6 : PySem.W.isFn K (.ref f6) = true) (l6 : K.lookup f6 = some ⟨oc6, od6, .func (PySem.W.fnOf "tell_map" "Holder.tell_map" (defArgs sTMap) (defBody sTMap) (defScope sTMap) .none kV6 dc6 pm6 an6 cd6 ct6), sl6⟩) (c6 : PySem.W.codeIn K cd6 "Holder.tell_map" = true) (k6 : PySem.W.keepIn K (.ref f6) = true)
    (a7 : PySem.W.findIn K (.ref C) "tell_counts" = some (some (.ref f7))) (i7 : PySem.W.isFn K (.ref f7) = true) (l7 : K.lookup f7 = some ⟨oc7, od7, .func (PySem.W.fnOf "tell_counts" "Holder.tell_counts" (defArgs sTCounts) (defBody sTCounts) (defScope sTCounts) .none kV7 dc7 pm7 an7 cd7 ct7), sl7⟩) (c7 : PySem.W.codeIn K cd7 "Holder.tell_counts" = true) (k7 : PySem.W.keepIn K (.ref f7) = true)
    (a8 : PySem.W.findIn K (.ref C) "tell_alike" = some (some (.ref f8))) (i8 : PySem.W.isFn K (.ref f8) = true) (l8 : K.lookup f8 = some ⟨oc8, od8, .func (PySem.W.fnOf "tell_alike" "Holder.tell_alike" (defArgs sTAlike) (defBody sTAlike) (defScope sTAlike) .none kV8 dc8 pm8 an8 cd8 ct8), sl8⟩) (c8 : PySem.W.codeIn K cd8 "Holder.tell_alike" = true) (k8 : PySem.W.keepIn K (.ref f8) = true)
    (a9 : PySem.W.findIn K (.ref C) "hold_made" = some (some (.ref f9))) (i9 : PySem.W.isFn K (.ref f9) = true) (l9 : K.lookup f9 = some ⟨oc9, od9, .func (PySem.W.fnOf "hold_made" "Holder.hold_made" (defArgs sHoldMade) (defBody sHoldMade) (defScope sHoldMade) .none kV9 dc9 pm9 an9 cd9 ct9), sl9⟩) (c9 : PySem.W.codeIn K cd9 "Holder.hold_made" = true) (k9 : PySem.W.keepIn K (.ref f9) = true)
    (a10 : PySem.W.findIn K (.ref C) "tell_lines" = some (some (.ref f10))) (i10 : PySem.W.isFn K (.ref f10) = true) (l10 : K.lookup f10 = some ⟨oc10, od10, .func (PySem.W.fnOf "tell_lines" "Holder.tell_lines" (defArgs sTLines) (defBody sTLines) (defScope sTLines) .none kV10 dc10 pm10 an10 cd10 ct10), sl10⟩) (c10 : PySem.W.codeIn K cd10 "Holder.tell_lines" = true) (k10 : PySem.W.keepIn K (.ref f10) = true)
    (a11 : PySem.W.findIn K (.ref C) "tell_run" = some (some (.ref f11))) (i11 : PySem.W.isFn K (.ref f11) = true) (l11 : K.lookup f11 = some ⟨oc11, od11, .func (PySem.W.fnOf "tell_run" "Holder.tell_run" (defArgs sTRun) (defBody sTRun) (defScope sTRun) .none kV11 dc11 pm11 an11 cd11 ct11), sl11⟩) (c11 : PySem.W.codeIn K cd11 "Holder.tell_run" = true) (k11 : PySem.W.keepIn K (.ref f11) = true) : ∃ C, B_Holder K mg C :=
  ⟨C, ⟨pg, hd, po, sa⟩, q_inputs, q_lines, q_outs, ix_mk X G bi_Holder aC mk kc a0 i0 l0 c0 k0, mx_mk bm_is_line a1 i1 l1 c1 k1, mx_mk bm_new_outs a2 i2 l2 c2 k2, mx_mk bm_hold_code a3 i3 l3 c3 k3, mx_mk bm_hold_outs a4 i4 l4 c4 k4, mx_mk bm_tell_small a5 i5 l5 c5 k5, mx_mk bm_tell_map a6 i6 l6 c6 k6, mx_mk bm_tell_counts a7 i7 l7 c7 k7, mx_mk bm_tell_alike a8 i8 l8 c8 k8, mx_mk bm_hold_made a9 i9 l9 c9 k9, mx_mk bm_tell_lines a10 i10 l10 c10 k10, mx_mk bm_tell_run a11 i11 l11 c11 k11⟩
structure B_Reader (K : PySem.W.Frag) (mg : Str → Option Value) (C : Addr) : Prop where
  cl : Cls K C
  n_numbers : NoAttr K C "numbers"
  n_at : NoAttr K C "at"
  ini : Ix K mg "Reader" "Reader.__init__" sDInit ["self", "numbers"] C
  m_is_done : Mx K C "is_done" "Reader.is_done" sIsDone ["self"]
  m_take_number : Mx K C "take_number" "Reader.take_number" sTakeN ["self"]
  m_take_row : Mx K C "take_row" "Reader.take_row" sTakeR ["self"]
theorem mk_Reader {h : Heap} {C : Addr} {f0 : Addr} {oc0 : Value} {od0 an0 : Option Addr} {sl0 : Array (Option Value)} {kV0 dc0 pm0 cd0 ct0 : Value} {f1 : Addr} {oc1 : Value} {od1 an1 : Option Addr} {sl1 : Array (Option Value)} {kV1 dc1 pm1 cd1 ct1 : Value} {f2 : Addr} {oc2 : Value} {od2 an2 : Option Addr} {sl2 : Array (Option Value)} {kV2 dc2 pm2 cd2 ct2 : Value} {f3 : Addr} {oc3 : Value} {od3 an3 : Option Addr} {sl3 : Array (Option Value)} {kV3 dc3 pm3 cd3 ct3 : Value} (X : K.In h) (G : h.Ns mainGlobals mg) (aC : PySem.W.nsIn K mainGlobals "Reader" = some (some (.ref C))) (pg : PySem.W.plainGet K C Str.empty = true) (hd : PySem.W.hasDictIn K C = true) (po : PySem.W.plainOver K C = true) (sa : PySem.W.findIn K (.ref C) "__setattr__" = some (some (.builtin "object.__setattr__"))) (mk : PySem.W.makesIn K C = true) (kc : PySem.W.keepIn K (.ref C) = true) (q_numbers : PySem.W.findIn K (.ref C) "numbers" = some none) (q_at : PySem.W.findIn K (.ref C) "at" = some none)
    (a0 : PySem.W.findIn K (.ref C) "__init__" = some (some (.ref f0))) (i0 : PySem.W.isFn K (.ref f0) = true) (l0 : K.lookup f0 = some ⟨oc0, od0, .func (PySem.W.fnOf "__init__" "Reader.__init__" (defArgs sDInit) (defBody sDInit) (defScope sDInit) .none kV0 dc0 pm0 an0 cd0 ct0), sl0⟩) (c0 : PySem.W.codeIn K cd0 "Reader.__init__" = true) (k0 : PySem.W.keepIn K (.ref f0) = true)
    (a1 : PySem.W.findIn K (.ref C) "is_done" = some (some (.ref f1))) (i1 : PySem.W.isFn K (.ref f1) = true) (l1 : K.lookup f1 = some ⟨oc1, od1, .func (PySem.W.fnOf "is_done" "Reader.is_done" (defArgs sIsDone) (defBody sIsDone) (defScope sIsDone) .none kV1 dc1 pm1 an1 cd1 ct1), sl1⟩) (c1 : PySem.W.codeIn K cd1 "Reader.is_done" = true) (k1 : PySem.W.keepIn K (.ref f1) = true)
    (a2 : PySem.W.findIn K (.ref C) "take_number" = some (some (.ref f2))) (i2 : PySem.W.isFn K (.ref f2) = true) (l2 : K.lookup f2 = some ⟨oc2, od2, .func (PySem.W.fnOf "take_number" "Reader.take_number" (defArgs sTakeN) (defBody sTakeN) (defScope sTakeN) .none kV2 dc2 pm2 an2 cd2 ct2), sl2⟩) (c2 : PySem.W.codeIn K cd2 "Reader.take_number" = true) (k2 : PySem.W.keepIn K (.ref f2) = true)
    (a3 : PySem.W.findIn K (.ref C) "take_row" = some (some (.ref f3))) (i3 : PySem.W.isFn K (.ref f3) = true) (l3 : K.lookup f3 = some ⟨oc3, od3, .func (PySem.W.fnOf "take_row" "Reader.take_row" (defArgs sTakeR) (defBody sTakeR) (defScope sTakeR) .none kV3 dc3 pm3 an3 cd3 ct3), sl3⟩) (c3 : PySem.W.codeIn K cd3 "Reader.take_row" = true) (k3 : PySem.W.keepIn K (.ref f3) = true) : ∃ C, B_Reader K mg C :=
  ⟨C, ⟨pg, hd, po, sa⟩, q_numbers, q_at, ix_mk X G bi_Reader aC mk kc a0 i0 l0 c0 k0, mx_mk bm_is_done a1 i1 l1 c1 k1, mx_mk bm_take_number a2 i2 l2 c2 k2, mx_mk bm_take_row a3 i3 l3 c3 k3⟩
end
end SD
/-! These names are taken on purpose: the head's tactic then lays no second copy of the text and of the heaps (each with a proof as long as the square of its objects), and works with the first ones; the compiled file would be past 64 MB else. -/
def PySem.W.Fast.tw14291003377148994306 : Nat := 0
def PySem.W.Fast.tw9937983721418326763 : Nat := 0
def PySem.W.Fast.tw17430188888639661911 : Nat := 0
def PySem.W.Fast.tw756856255453473296 : Nat := 0
def PySem.W.Fast.tw4546410473701976061 : Nat := 0
def PySem.W.Fast.tw825231538060003575 : Nat := 0
def PySem.W.Fast.tw4023047463246056825 : Nat := 0
def PySem.W.Fast.tw1930235711609364768 : Nat := 0
def PySem.W.Fast.tw6013912952746038189 : Nat := 0
def PySem.W.Fast.tw2922405735334283616 : Nat := 0
def PySem.W.Fast.tw6524050755605175448 : Nat := 0
open PySem PySem.W PyProof.Rows
set_option maxRecDepth 100000 in
set_option maxHeartbeats 0 in
theorem PySem.Challenge.cw_smallcode_s01_answers_holds : PySem.Challenge.rw_smallcode_s01_answers.Holds := by
  w_on; k_headS; (case hw => exact ⟨[.list [.int 7]], by decide +kernel, by decide +kernel⟩)
  k_fillS
  refine L2.walk_specK (r := PySem.Challenge.rw_smallcode_s01_answers) (k := 13) (CX := L2.CX0) (ps := ["calls"]) (sp := SD.spAnswers) (by decide +kernel) rfl rfl ⟨rfl, by decide, by decide⟩ (fun w h Y => PySem.W.kIn_of Y) ?F ?S (fun _ _ _ _ z => z)
  case F =>
    intro w mg fa h Y KX G hmg
    have g_MOST_WEIGHT : SD.GI mg "MOST_WEIGHT" 200 := by
      refine' SD.gi_mk KX G ?a_1
      (case a_1 => k_is)
    have g_INPUT : SD.GI mg "INPUT" 0 := by
      refine' SD.gi_mk KX G ?a_2
      (case a_2 => k_is)
    have g_CONSTANT : SD.GI mg "CONSTANT" 1 := by
      refine' SD.gi_mk KX G ?a_3
      (case a_3 => k_is)
    have g_SUM : SD.GI mg "SUM" 2 := by
      refine' SD.gi_mk KX G ?a_4
      (case a_4 => k_is)
    have g_DIFFERENCE : SD.GI mg "DIFFERENCE" 3 := by
      refine' SD.gi_mk KX G ?a_5
      (case a_5 => k_is)
    have g_PRODUCT : SD.GI mg "PRODUCT" 4 := by
      refine' SD.gi_mk KX G ?a_6
      (case a_6 => k_is)
    have g_QUOTIENT : SD.GI mg "QUOTIENT" 5 := by
      refine' SD.gi_mk KX G ?a_7
      (case a_7 => k_is)
    have g_NEGATIVE : SD.GI mg "NEGATIVE" 6 := by
      refine' SD.gi_mk KX G ?a_8
      (case a_8 => k_is)
    have g_MOST_LINES : SD.GI mg "MOST_LINES" 80 := by
      refine' SD.gi_mk KX G ?a_9
      (case a_9 => k_is)
    have g_MOST_INPUTS : SD.GI mg "MOST_INPUTS" 12 := by
      refine' SD.gi_mk KX G ?a_10
      (case a_10 => k_is)
    have g_IS_LINE : SD.GI mg "IS_LINE" 7 := by
      refine' SD.gi_mk KX G ?a_11
      (case a_11 => k_is)
    have g_SHARE : SD.GI mg "SHARE" 1 := by
      refine' SD.gi_mk KX G ?a_12
      (case a_12 => k_is)
    have g_FOLD : SD.GI mg "FOLD" 2 := by
      refine' SD.gi_mk KX G ?a_13
      (case a_13 => k_is)
    have g_IDENTITIES : SD.GI mg "IDENTITIES" 4 := by
      refine' SD.gi_mk KX G ?a_14
      (case a_14 => k_is)
    have g_LEAVE_OUT_DEAD : SD.GI mg "LEAVE_OUT_DEAD" 8 := by
      refine' SD.gi_mk KX G ?a_15
      (case a_15 => k_is)
    have g_MOST_MODE : SD.GI mg "MOST_MODE" 15 := by
      refine' SD.gi_mk KX G ?a_16
      (case a_16 => k_is)
    have g_GONE : SD.GI mg "GONE" (-1) := by
      refine' SD.gi_mk KX G ?a_17
      (case a_17 => k_is)
    have g_NO_FAULT : SD.GI mg "NO_FAULT" 0 := by
      refine' SD.gi_mk KX G ?a_18
      (case a_18 => k_is)
    have g_DIVISION_BY_ZERO : SD.GI mg "DIVISION_BY_ZERO" 1 := by
      refine' SD.gi_mk KX G ?a_19
      (case a_19 => k_is)
    have g_TOO_HEAVY : SD.GI mg "TOO_HEAVY" 2 := by
      refine' SD.gi_mk KX G ?a_20
      (case a_20 => k_is)
    have g_WRONG_NUMBER : SD.GI mg "WRONG_NUMBER" (-1) := by
      refine' SD.gi_mk KX G ?a_21
      (case a_21 => k_is)
    have g_WRONG_LIST : SD.GI mg "WRONG_LIST" (-2) := by
      refine' SD.gi_mk KX G ?a_22
      (case a_22 => k_is)
    have g_WRONG_USE : SD.GI mg "WRONG_USE" (-3) := by
      refine' SD.gi_mk KX G ?a_23
      (case a_23 => k_is)
    have g_TOO_MANY_LINES : SD.GI mg "TOO_MANY_LINES" (-7) := by
      refine' SD.gi_mk KX G ?a_24
      (case a_24 => k_is)
    have g_MOST_OUTS : SD.GI mg "MOST_OUTS" 12 := by
      refine' SD.gi_mk KX G ?a_25
      (case a_25 => k_is)
    have g_CODE : SD.GI mg "CODE" 0 := by
      refine' SD.gi_mk KX G ?a_26
      (case a_26 => k_is)
    have g_OUTS : SD.GI mg "OUTS" 1 := by
      refine' SD.gi_mk KX G ?a_27
      (case a_27 => k_is)
    have g_SMALL : SD.GI mg "SMALL" 2 := by
      refine' SD.gi_mk KX G ?a_28
      (case a_28 => k_is)
    have g_MAP : SD.GI mg "MAP" 3 := by
      refine' SD.gi_mk KX G ?a_29
      (case a_29 => k_is)
    have g_COUNTS : SD.GI mg "COUNTS" 4 := by
      refine' SD.gi_mk KX G ?a_30
      (case a_30 => k_is)
    have g_ALIKE : SD.GI mg "ALIKE" 5 := by
      refine' SD.gi_mk KX G ?a_31
      (case a_31 => k_is)
    have g_TAKE : SD.GI mg "TAKE" 6 := by
      refine' SD.gi_mk KX G ?a_32
      (case a_32 => k_is)
    have g_LINES : SD.GI mg "LINES" 7 := by
      refine' SD.gi_mk KX G ?a_33
      (case a_33 => k_is)
    have g_RUN : SD.GI mg "RUN" 8 := by
      refine' SD.gi_mk KX G ?a_34
      (case a_34 => k_is)
    have n_abs : mg "abs" = none := by
      refine' PySem.W.mg_none_of KX G ?a_35
      (case a_35 => k_is)
    have n_len : mg "len" = none := by
      refine' PySem.W.mg_none_of KX G ?a_36
      (case a_36 => k_is)
    have n_max : mg "max" = none := by
      refine' PySem.W.mg_none_of KX G ?a_37
      (case a_37 => k_is)
    have n_min : mg "min" = none := by
      refine' PySem.W.mg_none_of KX G ?a_38
      (case a_38 => k_is)
    have n_any : mg "any" = none := by
      refine' PySem.W.mg_none_of KX G ?a_39
      (case a_39 => k_is)
    have n_tuple : mg "tuple" = none := by
      refine' PySem.W.mg_none_of KX G ?a_40
      (case a_40 => k_is)
    have n_range : mg "range" = none := by
      refine' PySem.W.mg_none_of KX G ?a_41
      (case a_41 => k_is)
    have n_enumerate : mg "enumerate" = none := by
      refine' PySem.W.mg_none_of KX G ?a_42
      (case a_42 => k_is)
    have n_zip : mg "zip" = none := by
      refine' PySem.W.mg_none_of KX G ?a_43
      (case a_43 => k_is)
    have n_list : mg "list" = none := by
      refine' PySem.W.mg_none_of KX G ?a_44
      (case a_44 => k_is)
    refine' SD.then_ (SD.lens_mk KX G ?a_45 ?l_45) ?_
    (case a_45 => k_is); (case l_45 => k_is)
    intro g_lens
    refine' SD.then_ (SD.dx_mk KX G SD.bn_greatest_divisor ?a_46 ?l_46 ?c_46 ?k_46) ?_
    (case a_46 => k_is); (case l_46 => k_is); (case c_46 => k_is); (case k_46 => k_is)
    intro d_greatest_divisor
    refine' SD.then_ (SD.dx_mk KX G SD.bn_lowest ?a_47 ?l_47 ?c_47 ?k_47) ?_
    (case a_47 => k_is); (case l_47 => k_is); (case c_47 => k_is); (case k_47 => k_is)
    intro d_lowest
    refine' SD.then_ (SD.dx_mk KX G SD.bn_weight ?a_48 ?l_48 ?c_48 ?k_48) ?_
    (case a_48 => k_is); (case l_48 => k_is); (case c_48 => k_is); (case k_48 => k_is)
    intro d_weight
    refine' SD.then_ (SD.dx_mk KX G SD.bn_plus ?a_49 ?l_49 ?c_49 ?k_49) ?_
    (case a_49 => k_is); (case l_49 => k_is); (case c_49 => k_is); (case k_49 => k_is)
    intro d_plus
    refine' SD.then_ (SD.dx_mk KX G SD.bn_negative ?a_50 ?l_50 ?c_50 ?k_50) ?_
    (case a_50 => k_is); (case l_50 => k_is); (case c_50 => k_is); (case k_50 => k_is)
    intro d_negative
    refine' SD.then_ (SD.dx_mk KX G SD.bn_minus ?a_51 ?l_51 ?c_51 ?k_51) ?_
    (case a_51 => k_is); (case l_51 => k_is); (case c_51 => k_is); (case k_51 => k_is)
    intro d_minus
    refine' SD.then_ (SD.dx_mk KX G SD.bn_times ?a_52 ?l_52 ?c_52 ?k_52) ?_
    (case a_52 => k_is); (case l_52 => k_is); (case c_52 => k_is); (case k_52 => k_is)
    intro d_times
    refine' SD.then_ (SD.dx_mk KX G SD.bn_divided ?a_53 ?l_53 ?c_53 ?k_53) ?_
    (case a_53 => k_is); (case l_53 => k_is); (case c_53 => k_is); (case k_53 => k_is)
    intro d_divided
    refine' SD.then_ (SD.dx_mk KX G SD.bn_is_operation ?a_54 ?l_54 ?c_54 ?k_54) ?_
    (case a_54 => k_is); (case l_54 => k_is); (case c_54 => k_is); (case k_54 => k_is)
    intro d_is_operation
    refine' SD.then_ (SD.dx_mk KX G SD.bn_used_lines ?a_55 ?l_55 ?c_55 ?k_55) ?_
    (case a_55 => k_is); (case l_55 => k_is); (case c_55 => k_is); (case k_55 => k_is)
    intro d_used_lines
    refine' SD.then_ (SD.dx_mk KX G SD.bn_with_lines_replaced ?a_56 ?l_56 ?c_56 ?k_56) ?_
    (case a_56 => k_is); (case l_56 => k_is); (case c_56 => k_is); (case k_56 => k_is)
    intro d_with_lines_replaced
    refine' SD.then_ (SD.dx_mk KX G SD.bn_read_constant ?a_57 ?l_57 ?c_57 ?k_57) ?_
    (case a_57 => k_is); (case l_57 => k_is); (case c_57 => k_is); (case k_57 => k_is)
    intro d_read_constant
    refine' SD.then_ (SD.dx_mk KX G SD.bn_read_line ?a_58 ?l_58 ?c_58 ?k_58) ?_
    (case a_58 => k_is); (case l_58 => k_is); (case c_58 => k_is); (case k_58 => k_is)
    intro d_read_line
    refine' SD.then_ (SD.dx_mk KX G SD.bn_read_lines ?a_59 ?l_59 ?c_59 ?k_59) ?_
    (case a_59 => k_is); (case l_59 => k_is); (case c_59 => k_is); (case k_59 => k_is)
    intro d_read_lines
    refine' SD.then_ (SD.dx_mk KX G SD.bn_number_row ?a_60 ?l_60 ?c_60 ?k_60) ?_
    (case a_60 => k_is); (case l_60 => k_is); (case c_60 => k_is); (case k_60 => k_is)
    intro d_number_row
    refine' SD.then_ (SD.dx_mk KX G SD.bn_uses_only_earlier ?a_61 ?l_61 ?c_61 ?k_61) ?_
    (case a_61 => k_is); (case l_61 => k_is); (case c_61 => k_is); (case k_61 => k_is)
    intro d_uses_only_earlier
    refine' SD.then_ (SD.dx_mk KX G SD.bn_operation_value ?a_62 ?l_62 ?c_62 ?k_62) ?_
    (case a_62 => k_is); (case l_62 => k_is); (case c_62 => k_is); (case k_62 => k_is)
    intro d_operation_value
    refine' SD.then_ (SD.dx_mk KX G SD.bn_depth ?a_63 ?l_63 ?c_63 ?k_63) ?_
    (case a_63 => k_is); (case l_63 => k_is); (case c_63 => k_is); (case k_63 => k_is)
    intro d_depth
    refine' SD.then_ (SD.dx_mk KX G SD.bn_three_counts ?a_64 ?l_64 ?c_64 ?k_64) ?_
    (case a_64 => k_is); (case l_64 => k_is); (case c_64 => k_is); (case k_64 => k_is)
    intro d_three_counts
    refine' SD.then_ (SD.dx_mk KX G SD.bn_is_worth ?a_65 ?l_65 ?c_65 ?k_65) ?_
    (case a_65 => k_is); (case l_65 => k_is); (case c_65 => k_is); (case k_65 => k_is)
    intro d_is_worth
    refine' SD.then_ (SD.dx_mk KX G SD.bn_is_negative ?a_66 ?l_66 ?c_66 ?k_66) ?_
    (case a_66 => k_is); (case l_66 => k_is); (case c_66 => k_is); (case k_66 => k_is)
    intro d_is_negative
    refine' SD.then_ (SD.dx_mk KX G SD.bn_sum_identity ?a_67 ?l_67 ?c_67 ?k_67) ?_
    (case a_67 => k_is); (case l_67 => k_is); (case c_67 => k_is); (case k_67 => k_is)
    intro d_sum_identity
    refine' SD.then_ (SD.dx_mk KX G SD.bn_difference_identity ?a_68 ?l_68 ?c_68 ?k_68) ?_
    (case a_68 => k_is); (case l_68 => k_is); (case c_68 => k_is); (case k_68 => k_is)
    intro d_difference_identity
    refine' SD.then_ (SD.dx_mk KX G SD.bn_product_identity ?a_69 ?l_69 ?c_69 ?k_69) ?_
    (case a_69 => k_is); (case l_69 => k_is); (case c_69 => k_is); (case k_69 => k_is)
    intro d_product_identity
    refine' SD.then_ (SD.dx_mk KX G SD.bn_quotient_identity ?a_70 ?l_70 ?c_70 ?k_70) ?_
    (case a_70 => k_is); (case l_70 => k_is); (case c_70 => k_is); (case k_70 => k_is)
    intro d_quotient_identity
    refine' SD.then_ (SD.dx_mk KX G SD.bn_negative_identity ?a_71 ?l_71 ?c_71 ?k_71) ?_
    (case a_71 => k_is); (case l_71 => k_is); (case c_71 => k_is); (case k_71 => k_is)
    intro d_negative_identity
    refine' SD.then_ (SD.dx_mk KX G SD.bn_identity ?a_72 ?l_72 ?c_72 ?k_72) ?_
    (case a_72 => k_is); (case l_72 => k_is); (case c_72 => k_is); (case k_72 => k_is)
    intro d_identity
    refine' SD.then_ (SD.dx_mk KX G SD.bn_folded ?a_73 ?l_73 ?c_73 ?k_73) ?_
    (case a_73 => k_is); (case l_73 => k_is); (case c_73 => k_is); (case k_73 => k_is)
    intro d_folded
    refine' SD.then_ (SD.dx_mk KX G SD.bn_one_step ?a_74 ?l_74 ?c_74 ?k_74) ?_
    (case a_74 => k_is); (case l_74 => k_is); (case c_74 => k_is); (case k_74 => k_is)
    intro d_one_step
    refine' SD.then_ (SD.dx_mk KX G SD.bn_settled ?a_75 ?l_75 ?c_75 ?k_75) ?_
    (case a_75 => k_is); (case l_75 => k_is); (case c_75 => k_is); (case k_75 => k_is)
    intro d_settled
    refine' SD.then_ (SD.dx_mk KX G SD.bn_in_shared_order ?a_76 ?l_76 ?c_76 ?k_76) ?_
    (case a_76 => k_is); (case l_76 => k_is); (case c_76 => k_is); (case k_76 => k_is)
    intro d_in_shared_order
    refine' SD.then_ (SD.dx_mk KX G SD.bn_put ?a_77 ?l_77 ?c_77 ?k_77) ?_
    (case a_77 => k_is); (case l_77 => k_is); (case c_77 => k_is); (case k_77 => k_is)
    intro d_put
    refine' SD.then_ (SD.dx_mk KX G SD.bn_lines_anew ?a_78 ?l_78 ?c_78 ?k_78) ?_
    (case a_78 => k_is); (case l_78 => k_is); (case c_78 => k_is); (case k_78 => k_is)
    intro d_lines_anew
    refine' SD.then_ (SD.dx_mk KX G SD.bn_needed_lines ?a_79 ?l_79 ?c_79 ?k_79) ?_
    (case a_79 => k_is); (case l_79 => k_is); (case c_79 => k_is); (case k_79 => k_is)
    intro d_needed_lines
    refine' SD.then_ (SD.dx_mk KX G SD.bn_without_dead ?a_80 ?l_80 ?c_80 ?k_80) ?_
    (case a_80 => k_is); (case l_80 => k_is); (case c_80 => k_is); (case k_80 => k_is)
    intro d_without_dead
    refine' SD.then_ (SD.dx_mk KX G SD.bn_make ?a_81 ?l_81 ?c_81 ?k_81) ?_
    (case a_81 => k_is); (case l_81 => k_is); (case c_81 => k_is); (case k_81 => k_is)
    intro d_make
    refine' SD.then_ (SD.dx_mk KX G SD.bn_read_point ?a_82 ?l_82 ?c_82 ?k_82) ?_
    (case a_82 => k_is); (case l_82 => k_is); (case c_82 => k_is); (case k_82 => k_is)
    intro d_read_point
    refine' SD.then_ (SD.dx_mk KX G SD.bn_line_value ?a_83 ?l_83 ?c_83 ?k_83) ?_
    (case a_83 => k_is); (case l_83 => k_is); (case c_83 => k_is); (case k_83 => k_is)
    intro d_line_value
    refine' SD.then_ (SD.dx_mk KX G SD.bn_fault_of ?a_84 ?l_84 ?c_84 ?k_84) ?_
    (case a_84 => k_is); (case l_84 => k_is); (case c_84 => k_is); (case k_84 => k_is)
    intro d_fault_of
    refine' SD.then_ (SD.dx_mk KX G SD.bn_run_lines ?a_85 ?l_85 ?c_85 ?k_85) ?_
    (case a_85 => k_is); (case l_85 => k_is); (case c_85 => k_is); (case k_85 => k_is)
    intro d_run_lines
    refine' SD.then_ (SD.dx_mk KX G SD.bn_is_mode ?a_86 ?l_86 ?c_86 ?k_86) ?_
    (case a_86 => k_is); (case l_86 => k_is); (case c_86 => k_is); (case k_86 => k_is)
    intro d_is_mode
    refine' SD.then_ (SD.dx_mk KX G SD.bn_code_row ?a_87 ?l_87 ?c_87 ?k_87) ?_
    (case a_87 => k_is); (case l_87 => k_is); (case c_87 => k_is); (case k_87 => k_is)
    intro d_code_row
    refine' SD.then_ (SD.dx_mk KX G SD.bn_answer_next ?a_88 ?l_88 ?c_88 ?k_88) ?_
    (case a_88 => k_is); (case l_88 => k_is); (case c_88 => k_is); (case k_88 => k_is)
    intro d_answer_next
    refine' SD.then_ (SD.mk_Made KX G ?aC_89 ?pg_89 ?hd_89 ?po_89 ?sa_89 ?mk_89 ?kc_89 ?q_lines_89 ?q_went_89 ?a0_89 ?i0_89 ?l0_89 ?c0_89 ?k0_89) ?_
    (case aC_89 => k_is); (case pg_89 => k_is); (case hd_89 => k_is); (case po_89 => k_is); (case sa_89 => k_is); (case mk_89 => k_is); (case kc_89 => k_is); (case q_lines_89 => k_is); (case q_went_89 => k_is); (case a0_89 => k_is); (case i0_89 => k_is); (case l0_89 => k_is); (case c0_89 => k_is); (case k0_89 => k_is)
    intro ⟨CM, b_Made⟩
    refine' SD.then_ (SD.mk_Run KX G ?aC_90 ?pg_90 ?hd_90 ?po_90 ?sa_90 ?mk_90 ?kc_90 ?q_worked_out_90 ?q_fault_90 ?a0_90 ?i0_90 ?l0_90 ?c0_90 ?k0_90) ?_
    (case aC_90 => k_is); (case pg_90 => k_is); (case hd_90 => k_is); (case po_90 => k_is); (case sa_90 => k_is); (case mk_90 => k_is); (case kc_90 => k_is); (case q_worked_out_90 => k_is); (case q_fault_90 => k_is); (case a0_90 => k_is); (case i0_90 => k_is); (case l0_90 => k_is); (case c0_90 => k_is); (case k0_90 => k_is)
    intro ⟨CR, b_Run⟩
    refine' SD.then_ (SD.mk_Holder KX G ?aC_91 ?pg_91 ?hd_91 ?po_91 ?sa_91 ?mk_91 ?kc_91 ?q_inputs_91 ?q_lines_91 ?q_outs_91 ?a0_91 ?i0_91 ?l0_91 ?c0_91 ?k0_91 ?a1_91 ?i1_91 ?l1_91 ?c1_91 ?k1_91 ?a2_91 ?i2_91 ?l2_91 ?c2_91 ?k2_91 ?a3_91 ?i3_91 ?l3_91 ?c3_91 ?k3_91 ?a4_91 ?i4_91 ?l4_91 ?c4_91 ?k4_91 ?a5_91 ?i5_91 ?l5_91 ?c5_91 ?k5_91 ?a6_91 ?i6_91 ?l6_91 ?c6_91 ?k6_91 ?a7_91 ?i7_91 ?l7_91 ?c7_91 ?k7_91 ?a8_91 ?i8_91 ?l8_91 ?c8_91 ?k8_91 ?a9_91 ?i9_91 ?l9_91 ?c9_91 ?k9_91 ?a10_91 ?i10_91 ?l10_91 ?c10_91 ?k10_91 ?a11_91 ?i11_91 ?l11_91 ?c11_91 ?k11_91) ?_
    (case aC_91 => k_is); (case pg_91 => k_is); (case hd_91 => k_is); (case po_91 => k_is); (case sa_91 => k_is); (case mk_91 => k_is); (case kc_91 => k_is); (case q_inputs_91 => k_is); (case q_lines_91 => k_is); (case q_outs_91 => k_is); (case a0_91 => k_is); (case i0_91 => k_is); (case l0_91 => k_is); (case c0_91 => k_is); (case k0_91 => k_is); (case a1_91 => k_is); (case i1_91 => k_is); (case l1_91 => k_is); (case c1_91 => k_is); (case k1_91 => k_is); (case a2_91 => k_is); (case i2_91 => k_is); (case l2_91 => k_is); (case c2_91 => k_is); (case k2_91 => k_is); (case a3_91 => k_is); (case i3_91 => k_is); (case l3_91 => k_is); (case c3_91 => k_is); (case k3_91 => k_is); (case a4_91 => k_is); (case i4_91 => k_is); (case l4_91 => k_is); (case c4_91 => k_is); (case k4_91 => k_is); (case a5_91 => k_is); (case i5_91 => k_is); (case l5_91 => k_is); (case c5_91 => k_is); (case k5_91 => k_is); (case a6_91 => k_is); (case i6_91 => k_is); (case l6_91 => k_is); (case c6_91 => k_is); (case k6_91 => k_is); (case a7_91 => k_is); (case i7_91 => k_is); (case l7_91 => k_is); (case c7_91 => k_is); (case k7_91 => k_is); (case a8_91 => k_is); (case i8_91 => k_is); (case l8_91 => k_is); (case c8_91 => k_is); (case k8_91 => k_is); (case a9_91 => k_is); (case i9_91 => k_is); (case l9_91 => k_is); (case c9_91 => k_is); (case k9_91 => k_is); (case a10_91 => k_is); (case i10_91 => k_is); (case l10_91 => k_is); (case c10_91 => k_is); (case k10_91 => k_is); (case a11_91 => k_is); (case i11_91 => k_is); (case l11_91 => k_is); (case c11_91 => k_is); (case k11_91 => k_is)
    intro ⟨CH, b_Holder⟩
    refine' SD.then_ (SD.mk_Reader KX G ?aC_92 ?pg_92 ?hd_92 ?po_92 ?sa_92 ?mk_92 ?kc_92 ?q_numbers_92 ?q_at_92 ?a0_92 ?i0_92 ?l0_92 ?c0_92 ?k0_92 ?a1_92 ?i1_92 ?l1_92 ?c1_92 ?k1_92 ?a2_92 ?i2_92 ?l2_92 ?c2_92 ?k2_92 ?a3_92 ?i3_92 ?l3_92 ?c3_92 ?k3_92) ?_
    (case aC_92 => k_is); (case pg_92 => k_is); (case hd_92 => k_is); (case po_92 => k_is); (case sa_92 => k_is); (case mk_92 => k_is); (case kc_92 => k_is); (case q_numbers_92 => k_is); (case q_at_92 => k_is); (case a0_92 => k_is); (case i0_92 => k_is); (case l0_92 => k_is); (case c0_92 => k_is); (case k0_92 => k_is); (case a1_92 => k_is); (case i1_92 => k_is); (case l1_92 => k_is); (case c1_92 => k_is); (case k1_92 => k_is); (case a2_92 => k_is); (case i2_92 => k_is); (case l2_92 => k_is); (case c2_92 => k_is); (case k2_92 => k_is); (case a3_92 => k_is); (case i3_92 => k_is); (case l3_92 => k_is); (case c3_92 => k_is); (case k3_92 => k_is)
    intro ⟨CD, b_Reader⟩
    have glo := SD.Glo.mk g_MOST_WEIGHT g_INPUT g_CONSTANT g_SUM g_DIFFERENCE g_PRODUCT g_QUOTIENT g_NEGATIVE g_MOST_LINES g_MOST_INPUTS g_IS_LINE g_SHARE g_FOLD g_IDENTITIES g_LEAVE_OUT_DEAD g_MOST_MODE g_GONE g_lens n_abs n_len n_max n_min n_any n_tuple n_range n_enumerate n_zip
    have glo3 : SD.Glo3 mg := ⟨g_WRONG_NUMBER, g_WRONG_LIST, g_WRONG_USE, g_TOO_MANY_LINES, g_MOST_OUTS, n_list⟩
    refine' SD.ans_mk KX G hmg (A := ⟨glo, ⟨g_NO_FAULT, g_DIVISION_BY_ZERO, g_TOO_HEAVY⟩, glo3, ⟨g_CODE, g_OUTS, g_SMALL, g_MAP, g_COUNTS, g_ALIKE, g_TAKE, g_LINES, g_RUN⟩, d_greatest_divisor, d_lowest, d_weight, d_plus, d_negative, d_minus, d_times, d_divided, d_is_operation, d_used_lines, d_with_lines_replaced, d_read_constant, d_read_line, d_read_lines, d_number_row, d_uses_only_earlier, d_operation_value, d_depth, d_three_counts, d_is_worth, d_is_negative, d_sum_identity, d_difference_identity, d_product_identity, d_quotient_identity, d_negative_identity, d_identity, d_folded, d_one_step, d_settled, d_in_shared_order, d_put, d_lines_anew, d_needed_lines, d_without_dead, d_make, d_read_point, d_line_value, d_fault_of, d_run_lines, d_is_mode, d_code_row, d_answer_next, b_Holder.m_is_line, b_Holder.m_new_outs, b_Holder.m_hold_code, b_Holder.m_hold_outs, b_Holder.m_tell_small, b_Holder.m_tell_map, b_Holder.m_tell_counts, b_Holder.m_tell_alike, b_Holder.m_hold_made, b_Holder.m_tell_lines, b_Holder.m_tell_run, b_Reader.m_is_done, b_Reader.m_take_number, b_Reader.m_take_row, b_Made.ini, b_Run.ini, b_Holder.ini, b_Reader.ini, b_Made.cl, b_Run.cl, b_Holder.cl, b_Reader.cl, b_Made.n_lines, b_Made.n_went, b_Run.n_worked_out, b_Run.n_fault, b_Holder.n_inputs, b_Holder.n_lines, b_Holder.n_outs, b_Reader.n_numbers, b_Reader.n_at⟩) ?a_93 ?l_93 ?c_93 ?k_93
    (case a_93 => k_is); (case l_93 => k_is); (case c_93 => k_is); (case k_93 => k_is)
  case S =>
    intro K H xs a hO hwi hask hx
    cases hx with
    | cons h1 h2 =>
      cases h2
      cases h1 with
      | lst hs ha =>
        have e := L2.ints_dw a.1 _ ha
        subst e
        exact ⟨_, a.1, rfl, hs, hask, fun H' p hp => .lst (L2.SqL.of hp) (L2.dw_ints _)⟩
