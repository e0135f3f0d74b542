import PyProof.Rows.All
import Wide.All
import OpenK.AllK
import Wide.FinOn
import Lean
import PyProof.EqAt
import PyProof.EqKinds
import PyProof.TupleCall
import PyProof.NeKinds
import PyProof.EnumIter
import PyProof.EnumMake
import PyProof.ExcArgs
import PyProof.WalkInts
import PyProof.SeqI3
import PyProof.ZipIter
import PyProof.StrLoop
import PyProof.ConsumeWalk
import PyProof.StrLawsTight
import PyProof.StrLawsChain
import PyProof.Rows.StrItems
import PyProof.ExcClass2
import PySem.Challenge.RW_firetree_k08_texts_read
set_option Elab.async false
set_option linter.all false
set_option maxRecDepth 100000
namespace L2
open PySem PySem.Spec PyProof.Rows
/-- a key: an int or a str -/
abbrev Key := Sum Int Str
def keyIs : Key → Value → Bool
  | .inl k, v => Value.isInt k v
  | .inr x, v => Value.isStrOf x v
def keyH (w : World) : Key → Int
  | .inl k => hashInt k
  | .inr x => hashStr w x
theorem keyIs_shape : ∀ {k : Key} {v : Value}, keyIs k v = true → (∃ i t, k = Sum.inl i ∧ v = Value.int i t) ∨ (∃ x t, k = Sum.inr x ∧ v = Value.str x t)
  | .inl i, v, h => by
    obtain ⟨t, e⟩ := Value.isInt_shape (k := i) (v := v) h
    exact .inl ⟨i, t, rfl, e⟩
  | .inr x, v, h => by
    obtain ⟨t, e⟩ := Value.isStrOf_shape (x := x) (v := v) h
    exact .inr ⟨x, t, rfl, e⟩
theorem key_ll (a b : Int) : decide ((Sum.inl a : Key) = Sum.inl b) = (a == b) := by
  by_cases e : a = b
  · subst e; simp
  · have h : ¬ (Sum.inl a : Key) = Sum.inl b := fun q => e (Sum.inl.inj q)
    rw [decide_eq_false h]
    exact (beq_eq_false_iff_ne.mpr e).symm
theorem key_rr (a b : Str) : decide ((Sum.inr a : Key) = Sum.inr b) = decide (a = b) := by
  by_cases e : a = b
  · subst e; simp
  · have h : ¬ (Sum.inr a : Key) = Sum.inr b := fun q => e (Sum.inr.inj q)
    rw [decide_eq_false h, decide_eq_false e]
theorem key_lr (a : Int) (b : Str) : decide ((Sum.inl a : Key) = Sum.inr b) = false := decide_eq_false (fun q => nomatch q)
theorem key_rl (a : Str) (b : Int) : decide ((Sum.inr a : Key) = Sum.inl b) = false := decide_eq_false (fun q => nomatch q)
def mixKind (prog : Program) (w : World) : PySem.KeyKind prog w Key where
  is := keyIs
  hash := keyH w
  inj := fun v a b ha hb => by
    rcases keyIs_shape ha with ⟨i, t, rfl, rfl⟩ | ⟨x, t, rfl, rfl⟩
    · rcases keyIs_shape hb with ⟨j, u, rfl, e⟩ | ⟨y, u, rfl, e⟩
      · injection e with e1 _; rw [e1]
      · exact nomatch e
    · rcases keyIs_shape hb with ⟨j, u, rfl, e⟩ | ⟨y, u, rfl, e⟩
      · exact nomatch e
      · injection e with e1 _; rw [e1]
  byValue := fun k v h => by
    rcases keyIs_shape h with ⟨i, t, rfl, rfl⟩ | ⟨x, t, rfl, rfl⟩ <;> rfl
  pyHash := fun hv h => by
    rcases keyIs_shape hv with ⟨i, t, rfl, rfl⟩ | ⟨x, t, rfl, rfl⟩
    · exact wpAny_pyHash_int h
    · exact wpAny_pyHash_str h
  eqBool := fun hu hv h => by
    rcases keyIs_shape hu with ⟨i, t, rfl, rfl⟩ | ⟨x, t, rfl, rfl⟩
    · rcases keyIs_shape hv with ⟨j, u, rfl, rfl⟩ | ⟨y, u, rfl, rfl⟩
      · rw [key_ll] at h; exact wpAny_eqBool_int h
      · rw [key_lr] at h; exact SeqAt.EqAt.int_str i t y u _ _ _ _ h
    · rcases keyIs_shape hv with ⟨j, u, rfl, rfl⟩ | ⟨y, u, rfl, rfl⟩
      · rw [key_rl] at h; exact SeqAt.EqAt.str_int x t j u _ _ _ _ h
      · rw [key_rr] at h; exact wpAny_eqBool_str h
  «strs» := fun k x t v h => by
    rcases keyIs_shape h with ⟨i, u, rfl, e⟩ | ⟨y, u, rfl, e⟩
    · exact nomatch e
    · injection e with e1 _
      subst e1
      cases v <;> rfl
end L2
namespace L2
open PySem PySem.Spec PyProof.Rows
/-- a value, without the heap -/
inductive V where
  | non | bl (b : Bool) | int (i : Int) | str (x : Str) | byt (b : Array UInt8) | flt (b : UInt64) | ref (a : Addr) | ty (n : String)
  deriving DecidableEq
def RelV : V → Value → Prop
  | .non, u => u = Value.none
  | .bl b, u => u = Value.bool b
  | .int i, u => ∃ t, u = Value.int i t
  | .str x, u => ∃ t, u = Value.str x t
  | .byt b, u => ∃ t, u = Value.bytes b t
  | .flt b, u => ∃ t, u = Value.float b t
  | .ref a, u => u = Value.ref a
  | .ty n, u => u = Value.type n
abbrev Vals : List V → List Value → Prop := Paired RelV
theorem Vals.length {xs : List V} {us : List Value} (r : Vals xs us) : xs.length = us.length := Paired.length r
theorem Vals.get : ∀ {xs : List V} {us : List Value} {i : Nat} {x : V}, Vals xs us → xs[i]? = some x → ∃ u, us[i]? = some u ∧ RelV x u
  | _, _, _, _, .nil, e => by simp at e
  | _, _, 0, _, .cons r _, e => by simp at e; subst e; exact ⟨_, rfl, r⟩
  | _, _, i + 1, x, .cons _ t, e => by
    obtain ⟨u, h1, h2⟩ := Vals.get (i := i) (x := x) t (by simpa using e)
    exact ⟨u, by simpa using h1, h2⟩
theorem Vals.append : ∀ {xs ys : List V} {us ws : List Value}, Vals xs us → Vals ys ws → Vals (xs ++ ys) (us ++ ws)
  | _, _, _, _, .nil, s => s
  | _, _, _, _, .cons r t, s => .cons r (Vals.append t s)
theorem Vals.take : ∀ {xs : List V} {us : List Value} (n : Nat), Vals xs us → Vals (xs.take n) (us.take n)
  | _, _, 0, _ => .nil
  | _, _, _ + 1, .nil => .nil
  | _, _, n + 1, .cons r t => .cons r (Vals.take n t)
theorem Vals.drop : ∀ {xs : List V} {us : List Value} (n : Nat), Vals xs us → Vals (xs.drop n) (us.drop n)
  | _, _, 0, r => r
  | _, _, _ + 1, .nil => .nil
  | _, _, n + 1, .cons _ t => Vals.drop n t
def RelO : Option V → Option Value → Prop
  | some v, some u => RelV v u
  | none, none => True
  | _, _ => False
def KV {κ : Type} : List (κ × V) → List (κ × Value) → Prop := Paired fun (p : κ × V) (q : κ × Value) => p.1 = q.1 ∧ RelV p.2 q.2
/-- a key of a dict (00_mix): an int or a text -/
def kV : Key → V
  | .inl i => .int i
  | .inr x => .str x
/-- what stands at a tracked address -/
inductive HO where
  /-- a list -/
  | lst (xs : List V)
  /-- a tuple (never changes) -/
  | tup (xs : List V)
  /-- a dict whose keys are ints and texts; one whose keys are tuples of ints and texts (the empty one is both) -/
  | dK (kvs : List (Key × V)) | dT (kvs : List (List Key × V))
  /-- a set of ints: its members, its size -/
  | set (S : Int → Bool) (n : Nat)
  /-- an instance of the class at C, its dict at dx, its attributes -/
  | ins (C dx : Addr) (fs : List (Str × V))
  /-- the dict of the instance at x -/
  | own (x : Addr)
  /-- the dict of an exception -/
  | xd (fs : List (Str × V))
  /-- a bound method, f of x -/
  | met (f x : Addr)
  /-- a range object lo, lo + 1, .. below hi -/
  | rng (lo hi : Int)
  /-- a thing that is known to the object (the script; a dict while a loop walks it): read, never written while it is so -/
  | frz (o : Obj) (u : HO)
  /-- a code object's table -/
  | tbl (ps : Array Value)
  /-- any other thing, by what is true of its one object (a def of one's own: SetO a S n := HO.ext fun h => ..) -/
  | ext (φ : Heap → Prop)
abbrev Hp := Addr → Option HO
def upd (H : Hp) (a : Addr) (o : HO) : Hp := fun b => if b = a then some o else H b
theorem upd_same {H : Hp} {a : Addr} {o : HO} : upd H a o a = some o := by unfold upd; rw [if_pos rfl]
theorem upd_ne {H : Hp} {a b : Addr} {o : HO} (h : b ≠ a) : upd H a o b = H b := by unfold upd; rw [if_neg h]
/-- two objects of different content stand apart -/
theorem ne_of {H : Hp} {a b : Addr} {o u : HO} (h : H a = some o) (h' : H b = some u) (d : o ≠ u) : a ≠ b := by
  intro e; subst e; rw [h] at h'; exact d (Option.some.inj h')
theorem ne_of_none {H : Hp} {a b : Addr} {o : HO} (h : H a = some o) (h' : H b = none) : a ≠ b := by
  intro e; subst e; rw [h] at h'; cases h'
section
variable (P : Program) (w : World)
def ObjOk (H : Hp) (h : Heap) (a : Addr) : HO → Prop
  | .lst xs => xs.length ≤ sizeLine ∧ ∃ (its : List Value) (n : Nat), Vals xs its ∧ h.get? a = some { cls := .type "list", data := .seq its.toArray n }
  | .tup xs => xs.length ≤ sizeLine ∧ ∃ its : List Value, Vals xs its ∧ IsTup h a its.toArray
  | .dK kvs => kvs.length ≤ sizeLine ∧ (a == sysModules) = false ∧ ∃ vs, KV kvs vs ∧ h.DictOf (mixKind P w) a vs
  | .dT kvs => kvs.length ≤ sizeLine ∧ (a == sysModules) = false ∧ ∃ xs : List (List Key × Addr × Value),
      Paired (fun (p : List Key × V) (q : List Key × Addr × Value) => p.1 = q.1 ∧ H q.2.1 = some (.tup (p.1.map kV)) ∧ RelV p.2 q.2.2) kvs xs ∧
      ∃ o es ep, h.get? a = some o ∧ o.ExactDict ∧ o.data = .dict es ep ∧ es.toList = xs.map (entryOfKey (tupleKind (mixKind P w))) ∧ (xs.map (·.1)).Nodup
  | .set S n => h.SetOf (intKind P w) a S n
  | .ins C dx fs => H dx = some (.own a) ∧ fs.length ≤ 1000 ∧ dx ≠ a ∧ h.get? a = some (PySem.W.instObj C dx) ∧
      ∃ mA, h.Ns1 dx mA ∧ (∀ f, RelO (fs.lookup f) (mA f)) ∧ PySem.Within mA (fs.map (·.1))
  | .own _ => ∃ o, h.get? a = some o
  | .xd fs => ∃ mA, h.Ns1 a mA ∧ ∀ f, RelO (fs.lookup f) (mA f)
  | .rng lo hi => ∃ t u v, h.get? a = some { cls := .type "range", data := .fields #[.int lo t, .int hi u, .int 1 v] }
  | .frz o u => h.get? a = some o ∧ ObjOk H h a u
  | .tbl ps => h.get? a = some { cls := .none, data := .fields ps }
  | .met f x => h.get? a = some (PySem.W.methodObj (.ref f) (.ref x))
  | .ext φ => φ h ∧ (∃ o, h.get? a = some o) ∧ ∀ h1 h2 : Heap, φ h1 → (∀ o, h1.get? a = some o → h2.get? a = some o) → φ h2
/-- the abstract heap is held -/
def HOk (H : Hp) (h : Heap) : Prop := ∀ a o, H a = some o → ObjOk P w H h a o
end
section
variable {P : Program} {w : World} {H H' : Hp} {h h' : Heap} {a : Addr} {o : HO}
theorem ObjOk.lt (x : ObjOk P w H h a o) : a < h.objs.size := by
  cases o with
  | lst xs => obtain ⟨_, _, _, _, e⟩ := x; exact Heap.lt_size e
  | tup xs => obtain ⟨_, _, _, p⟩ := x; exact p.lt
  | dK kvs => obtain ⟨_, _, _, _, o, _, _, e, _⟩ := x; exact Heap.lt_size e
  | dT kvs => obtain ⟨_, _, _, _, o, _, _, e, _⟩ := x; exact Heap.lt_size e
  | set S n => obtain ⟨o, _, _, _, e, _⟩ := x; exact Heap.lt_size e
  | ins C dx fs => obtain ⟨_, _, _, e, _⟩ := x; exact Heap.lt_size e
  | own y => obtain ⟨_, e⟩ := x; exact Heap.lt_size e
  | xd fs => obtain ⟨_, ⟨_, _, _, e, _⟩, _⟩ := x; exact Heap.lt_size e
  | rng lo hi => obtain ⟨_, _, _, e⟩ := x; exact Heap.lt_size e
  | frz ob u => obtain ⟨e, _⟩ := x; exact Heap.lt_size e
  | tbl ps => exact Heap.lt_size (show h.get? a = some _ from x)
  | met f y => exact Heap.lt_size (show h.get? a = some _ from x)
  | ext φ => obtain ⟨_, ⟨_, e⟩, _⟩ := x; exact Heap.lt_size e
theorem Paired.mapP {α β : Type} {F G : α → β → Prop} : ∀ {l₁ : List α} {l₂ : List β}, Paired F l₁ l₂ → (∀ a b, F a b → G a b) → Paired G l₁ l₂
  | _, _, .nil, _ => .nil
  | _, _, .cons r t, f => .cons (f _ _ r) (Paired.mapP t f)
/-- what an object's description leans on: its own object, its own dict, the tuples -/
theorem ObjOk.stay (x : ObjOk P w H h a o) (k : ∀ b u, (b = a ∨ H b = some (.own a)) → h.get? b = some u → h'.get? b = some u)
    (ho : ∀ b, H b = some (.own a) → H' b = some (.own a)) (ht : ∀ b xs, H b = some (.tup xs) → H' b = some (.tup xs)) : ObjOk P w H' h' a o := by
  induction o with
  | lst xs => obtain ⟨z, its, n, r, e⟩ := x; exact ⟨z, its, n, r, k _ _ (.inl rfl) e⟩
  | tup xs => obtain ⟨z, its, r, ob, e, c⟩ := x; exact ⟨z, its, r, ob, k _ _ (.inl rfl) e, c⟩
  | dK kvs => obtain ⟨z, y, vs, r, ob, es, ep, e, c⟩ := x; exact ⟨z, y, vs, r, ob, es, ep, k _ _ (.inl rfl) e, c⟩
  | dT kvs =>
    obtain ⟨z, y, xs, r, ob, es, ep, e, c⟩ := x
    exact ⟨z, y, xs, Paired.mapP r fun p q z => ⟨z.1, ht _ _ z.2.1, z.2.2⟩, ob, es, ep, k _ _ (.inl rfl) e, c⟩
  | set S n => obtain ⟨ob, es, ep, t, e, c⟩ := x; exact ⟨ob, es, ep, t, k _ _ (.inl rfl) e, c⟩
  | ins C dx fs =>
    obtain ⟨d, z, ne, e, mA, ⟨od, es, ep, e2, c⟩, r⟩ := x
    exact ⟨ho _ d, z, ne, k _ _ (.inl rfl) e, mA, ⟨od, es, ep, k _ _ (.inr d) e2, c⟩, r⟩
  | own y => obtain ⟨ob, e⟩ := x; exact ⟨ob, k _ _ (.inl rfl) e⟩
  | xd fs => obtain ⟨mA, ⟨od, es, ep, e, c⟩, r⟩ := x; exact ⟨mA, ⟨od, es, ep, k _ _ (.inl rfl) e, c⟩, r⟩
  | rng lo hi => obtain ⟨t, u, v, e⟩ := x; exact ⟨t, u, v, k _ _ (.inl rfl) e⟩
  | frz ob u ih => obtain ⟨e, q⟩ := x; exact ⟨k _ _ (.inl rfl) e, ih q⟩
  | tbl ps =>
    have e : h.get? a = some { cls := .none, data := .fields ps } := x
    show h'.get? a = some { cls := .none, data := .fields ps }
    exact k a _ (.inl rfl) e
  | met f y =>
    have e : h.get? a = some (PySem.W.methodObj (.ref f) (.ref y)) := x
    show h'.get? a = some (PySem.W.methodObj (.ref f) (.ref y))
    exact k a _ (.inl rfl) e
  | ext φ => obtain ⟨p, ⟨o, e⟩, st⟩ := x; exact ⟨st _ _ p fun o q => k _ _ (.inl rfl) q, ⟨o, k _ _ (.inl rfl) e⟩, st⟩
theorem HOk.lt (x : HOk P w H h) (e : H a = some o) : a < h.objs.size := (x a o e).lt
theorem HOk.fresh (x : HOk P w H h) (e : h.objs.size ≤ a) : H a = none := by
  cases q : H a with
  | none => rfl
  | some u => exact absurd (Nat.lt_of_lt_of_le (x.lt q) e) (Nat.lt_irrefl _)
/-- every object of the heap is kept -/
theorem HOk.kept (x : HOk P w H h) (k : ∀ b u, h.get? b = some u → h'.get? b = some u) : HOk P w H h' := fun a o e =>
  (x a o e).stay (fun b u _ q => k b u q) (fun _ q => q) fun _ _ q => q
/-- a new object is laid and tracked -/
theorem HOk.laid (x : HOk P w H h) (k : ∀ b u, h.get? b = some u → h'.get? b = some u) (hp : h.objs.size ≤ a) (new : ObjOk P w (upd H a o) h' a o) : HOk P w (upd H a o) h' := fun b u e => by
  have hn := x.fresh hp
  by_cases hb : b = a
  · subst hb; rw [upd_same] at e; cases e; exact new
  · rw [upd_ne hb] at e
    exact (x b u e).stay (fun c v _ q => k c v q) (fun c q => by rw [upd_ne (ne_of_none q hn)]; exact q) fun c xs q => by rw [upd_ne (ne_of_none q hn)]; exact q
end
/-- what may be read as u: it is u, or a known u -/
def Rd (H : Hp) (a : Addr) (u : HO) : Prop := H a = some u ∨ ∃ o, H a = some (.frz o u)
theorem Rd.ok {P : Program} {w : World} {H : Hp} {h : Heap} {a : Addr} {u : HO} (r : Rd H a u) (x : HOk P w H h) : ObjOk P w H h a u := by
  rcases r with r | ⟨o, r⟩
  · exact x a u r
  · obtain ⟨_, q⟩ := x a _ r
    exact q
/-- what may be written -/
def Mut : Option HO → Prop
  | some (.lst _) => True
  | some (.dK _) => True
  | some (.dT _) => True
  | some (.set _ _) => True
  | some (.ins _ _ _) => True
  | some (.ext _) => True
  | _ => False
section
variable {P : Program} {w : World} {H : Hp} {h h' : Heap} {x e : Addr} {o' : HO}
/-- the object at e is changed: x itself, or the dict of the instance x -/
theorem HOk.write (ok : HOk P w H h) (mu : Mut (H x)) (he : e = x ∨ H e = some (.own x)) (k : ∀ b u, b ≠ e → h.get? b = some u → h'.get? b = some u) (heo : ∃ u, h'.get? e = some u)
    (new : ObjOk P w (upd H x o') h' x o') : HOk P w (upd H x o') h' := fun b u q => by
  have nown : ∀ c y, H c = some (.own y) → c ≠ x := fun c y r z => by subst z; rw [r] at mu; exact mu
  have ntup : ∀ c xs, H c = some (.tup xs) → c ≠ x := fun c xs r z => by subst z; rw [r] at mu; exact mu
  by_cases hb : b = x
  · subst hb; rw [upd_same] at q; cases q; exact new
  · rw [upd_ne hb] at q
    by_cases hbe : b = e
    · have q' : H b = some (.own x) := by
        rcases he with z | z
        · exact absurd (hbe.trans z) hb
        · rw [hbe]; exact z
      rw [q] at q'; cases q'
      obtain ⟨v, hv⟩ := heo
      exact ⟨v, by rw [hbe]; exact hv⟩
    · refine (ok b u q).stay (fun c v hc r => k c v ?_ r) (fun c r => by rw [upd_ne (nown c b r)]; exact r) fun c xs r => by rw [upd_ne (ntup c xs r)]; exact r
      rcases hc with rfl | hc
      · exact hbe
      · rintro rfl
        rcases he with z | z
        · exact nown c b hc z
        · rw [hc] at z; cases z; exact hb rfl
end
structure Un (fs ex : List Addr) (H H' : Hp) (h h' : Heap) : Prop where
  keep : ∀ b o, h.get? b = some o → H b = none → b ∉ fs → b ∉ ex → h'.get? b = some o
  slot : ∀ b o, h.get? b = some o → H b = none → b ∈ fs → b ∉ ex → ∃ sl, h'.get? b = some { o with slots := sl }
  free : ∀ b o, h.get? b = some o → H b = none → b ∉ ex → H' b = none
  there : ∀ b o, h.get? b = some o → b ∉ ex → ∃ o', h'.get? b = some o'
  tups : ∀ b xs, H b = some (.tup xs) → H' b = some (.tup xs)
  frzs : ∀ b o u, H b = some (.frz o u) → H' b = some (.frz o u)
  tbls : ∀ b ps, H b = some (.tbl ps) → ∃ more, H' b = some (.tbl (ps ++ more))
section
variable {fs fs' ex ex' : List Addr} {H H1 H2 : Hp} {h h1 h2 h' : Heap} {a x e : Addr} {o : HO}
theorem Un.any (u : Un fs ex H H1 h h1) {b : Addr} {ob : Obj} (q : h.get? b = some ob) (n : H b = none) (hx : b ∉ ex) : ∃ sl, h1.get? b = some { ob with slots := sl } := by
  by_cases hb : b ∈ fs
  · exact u.slot b ob q n hb hx
  · exact ⟨ob.slots, u.keep b ob q n hb hx⟩
theorem Un.kept (k : ∀ b u, h.get? b = some u → h'.get? b = some u) : Un fs ex H H h h' :=
  ⟨fun b ob q _ _ _ => k b ob q, fun b ob q _ _ _ => ⟨ob.slots, k b ob q⟩, fun _ _ _ n _ => n, fun b ob q _ => ⟨ob, k b ob q⟩, fun _ _ q => q, fun _ _ _ q => q, fun _ ps q => ⟨#[], by rw [q]; simp⟩⟩
theorem Un.refl : Un fs ex H H h h := Un.kept fun _ _ q => q
theorem Un.laid (k : ∀ b u, h.get? b = some u → h'.get? b = some u) (hp : h.objs.size ≤ a) (hn : H a = none) : Un fs ex H (upd H a o) h h' where
  keep := fun b u q _ _ _ => k b u q
  slot := fun b u q _ _ _ => ⟨u.slots, k b u q⟩
  free := fun b u q n _ => by rw [upd_ne (Nat.ne_of_lt (Nat.lt_of_lt_of_le (Heap.lt_size q) hp))]; exact n
  there := fun b u q _ => ⟨u, k b u q⟩
  tups := fun b xs q => by rw [upd_ne (ne_of_none q hn)]; exact q
  frzs := fun b u xs q => by rw [upd_ne (ne_of_none q hn)]; exact q
  tbls := fun b ps q => ⟨#[], by rw [upd_ne (ne_of_none q hn), q]; simp⟩
theorem Un.write (mu : Mut (H x)) (he : e = x ∨ H e = some (.own x)) (k : ∀ b u, b ≠ e → h.get? b = some u → h'.get? b = some u) (heo : ∃ u, h'.get? e = some u) : Un fs ex H (upd H x o) h h' := by
  have hx : ∀ b, H b = none → b ≠ x := fun b n z => by subst z; rw [n] at mu; exact mu
  have hb : ∀ b, H b = none → b ≠ e := fun b n z => by
    subst z
    rcases he with r | r
    · exact hx b n r
    · rw [n] at r; cases r
  have hm : ∀ b u, H b = some u → ¬ Mut (some u) → b ≠ x := fun b u q nm z => by subst z; rw [q] at mu; exact nm mu
  refine ⟨fun b u q n _ _ => k b u (hb b n) q, fun b u q n _ _ => ⟨u.slots, k b u (hb b n) q⟩, fun b u q n _ => by rw [upd_ne (hx b n)]; exact n, fun b u q _ => ?_,
    fun b xs q => by rw [upd_ne (hm b _ q fun z => z)]; exact q, fun b u xs q => by rw [upd_ne (hm b _ q fun z => z)]; exact q, fun b ps q => ⟨#[], by rw [upd_ne (hm b _ q fun z => z), q]; simp⟩⟩
  by_cases hbe : b = e
  · subst hbe; exact heo
  · exact ⟨u, k b u hbe q⟩
end
def trk (h : Heap) (H : Hp) : List Addr := (List.range h.objs.size).filter fun a => (H a).isSome
def hidT (h : Heap) (H : Hp) : Heap := PySem.W.hideAll h (trk h H)
theorem hidT_size (h : Heap) (H : Hp) : (hidT h H).objs.size = h.objs.size := PySem.W.hideAll_size _ _
theorem hidT_get {h : Heap} {H : Hp} {b : Addr} {o : Obj} (e : h.get? b = some o) (n : H b = none) : (hidT h H).get? b = some o :=
  PySem.W.hideAll_get _ e fun hm => by
    have q : (H b).isSome = true := (List.mem_filter.mp hm).2
    rw [n] at q; simp at q
theorem of_hidT {h : Heap} {H : Hp} {b : Addr} {o : Obj} (e : (hidT h H).get? b = some o) : h.get? b = some o ∧ H b = none := by
  have e' : h.get? b = some o := PySem.W.of_hideAll (trk h H) e
  refine ⟨e', ?_⟩
  cases q : H b with
  | none => rfl
  | some x =>
    have hm : b ∈ trk h H := List.mem_filter.mpr ⟨List.mem_range.mpr (Heap.lt_size e'), by simp [q]⟩
    have z : (hidT h H).get? b = none := PySem.W.hideAll_none (trk h H) hm
    rw [z] at e; cases e
end L2
namespace L2
open PySem PySem.Spec PyProof.Rows
/-- the module's facts, over the base: the heap at the law's entry without what is tracked there -/
structure Mod (K : PySem.W.Frag) (mg : Str → Option Value) (base : Heap) : Prop where
  kin : K.In base
  glob : base.Ns mainGlobals mg
  blt : ∃ mb, base.Ns builtinsNs mb ∧ ∀ x : Str, x ≠ "__name__" → mb x = bootBuiltins x
  nolimit : base.NoLimit
/-- the context: a def's body (or a comprehension's block) running. base: fixed through the whole law; s₀, H₀: the entry; outer: the frames whose slots others may change (a def's callers); stack: all frames that run;
   ex: iterators that were made ahead of the entry and are walked here (a comprehension's); fn: the names whose cells were made at the entry (a def: all; a comprehension's block: its own); calm: not within an except suite; pn: pins that every state bears; xe: what is wanted of an exception that leaves the code -/
structure Cx where
  prog : Program
  w : World
  K : PySem.W.Frag
  mg : Str → Option Value
  base : Heap
  A : Around
  N : List Str
  s₀ : Shared
  H₀ : Hp
  env : Env
  outer : List Env
  stack : List Env
  ex : List Addr
  fn : Str → Bool
  calm : Bool
  pn : List (Addr × Obj)
  xe : Value → Shared → Prop
/-- the callers' frames -/
def frs (l : List Env) : List Addr := l.filterMap (·.frame)
abbrev Cx.fs (X : Cx) : List Addr := frs X.outer
def Vis (sc : Scope) (x : Str) : Prop := sc.names.lookup x = some .local ∨ sc.names.lookup x = some .cell ∨ sc.names.lookup x = some .free
def Loc (sc : Scope) (x : Str) : Prop := sc.names.lookup x = some .local ∨ sc.names.lookup x = some .cell
def Look (env : Env) (h : Heap) (m : Str → Option Value) (x : Str) (u : Value) : Prop :=
  (env.kindOf x = some .local ∧ m x = some u) ∨ ((env.kindOf x = some .cell ∨ env.kindOf x = some .free) ∧ ∃ c, env.cells.lookup x = some c ∧ h.IsCell c (some u))
structure Cx.Ok (X : Cx) : Prop where
  mod : Mod X.K X.mg X.base
  kind : X.env.scope.kind = .function
  glob : X.env.globals = mainGlobals
  blt : X.env.builtins = builtinsNs
  above : X.s₀.heap.objs.size ≤ X.env.locals
  inj : ∀ x y c, X.env.cells.lookup x = some c → X.env.cells.lookup y = some c → x = y
  has : ∀ x, (X.env.kindOf x = some .cell ∨ X.env.kindOf x = some .free) → ∃ c, X.env.cells.lookup x = some c
  cab : ∀ x c, X.fn x = true → X.env.cells.lookup x = some c → X.s₀.heap.objs.size ≤ c
  hd : X.calm = true → X.A.handled = none
  frames : X.A.frames = some X.stack
  stk : X.stack = X.outer ∨ (X.stack = X.env :: X.outer ∧ X.env.frame = some X.env.locals)
  exf : ∀ b ∈ X.ex, b ≠ X.env.locals ∧ ∀ x c, X.env.cells.lookup x = some c → c ≠ b
  bs : ∀ b o, X.base.get? b = some o → X.s₀.heap.get? b = some o ∧ X.H₀ b = none
  bsz : X.base.objs.size ≤ X.s₀.heap.objs.size
  noex : ∀ b o, X.base.get? b = some o → b ∉ X.ex
  exfs : ∀ b ∈ X.ex, b ∉ X.fs
  funs : X.s₀.heap.FunFrames X.base X.outer
  frf : ∀ b ∈ X.fs, X.H₀ b = none
structure Inv (X : Cx) (pins : List (Addr × Obj)) (σ : List (Option V)) (H : Hp) (s : Shared) : Prop where
  ok : X.Ok
  os : s.os = X.s₀.os
  bare : AllBare s.gens
  base : Un X.fs X.ex X.H₀ H X.s₀.heap s.heap
  loc : ∃ m, s.heap.Ns X.env.locals m ∧ ∀ (i : Nat) (x : Str) (v : V), X.N[i]? = some x → σ[i]? = some (some v) → Vis X.env.scope x → ∃ u, RelV v u ∧ Look X.env s.heap m x u
  cell : ∀ x c, X.env.cells.lookup x = some c → ∃ v, s.heap.IsCell c v
  free : H X.env.locals = none
  freeC : ∀ x c, X.env.cells.lookup x = some c → H c = none
  pin : ∀ p ∈ X.pn ++ pins, s.heap.get? p.1 = some p.2 ∧ H p.1 = none ∧ p.1 ≠ X.env.locals ∧ p.1 ∉ X.fs ∧ ∀ v, p.2.data ≠ .cell v
  hok : HOk X.prog X.w H s.heap
  len : σ.length = X.N.length
section
variable {X : Cx} {pins : List (Addr × Obj)} {σ : List (Option V)} {H H' : Hp} {s : Shared} {h' : Heap}
theorem Cx.Ok.nofr (ok : X.Ok) {b : Addr} {o : Obj} (e : X.base.get? b = some o) : b ∉ X.fs := fun hb => by
  have := (ok.funs.mem hb).1
  rw [e] at this; cases this
theorem Inv.bs (I : Inv X pins σ H s) : ∀ b o, X.base.get? b = some o → s.heap.get? b = some o ∧ H b = none := fun b o e =>
  ⟨I.base.keep b o (I.ok.bs b o e).1 (I.ok.bs b o e).2 (I.ok.nofr e) (I.ok.noex b o e), I.base.free b o (I.ok.bs b o e).1 (I.ok.bs b o e).2 (I.ok.noex b o e)⟩
theorem Inv.bk (I : Inv X pins σ H s) : ∀ b o, X.base.get? b = some o → s.heap.get? b = some o := fun b o e => (I.bs b o e).1
theorem Inv.mod (I : Inv X pins σ H s) : Mod X.K X.mg X.base := I.ok.mod
theorem Inv.kIn (I : Inv X pins σ H s) : X.K.In s.heap := I.ok.mod.kin.keeps I.bk
theorem Inv.lt (I : Inv X pins σ H s) : X.env.locals < s.heap.objs.size := let ⟨_, hn, _⟩ := I.loc; hn.lt
theorem Inv.sz (I : Inv X pins σ H s) : X.s₀.heap.objs.size ≤ s.heap.objs.size := Nat.le_trans I.ok.above (Nat.le_of_lt I.lt)
theorem Inv.nofs (I : Inv X pins σ H s) {a : Addr} (h : s.heap.objs.size ≤ a) : a ∉ X.fs := fun hb => by
  obtain ⟨_, o, ho, _⟩ := I.ok.funs.mem hb
  exact absurd (Nat.lt_of_lt_of_le (Heap.lt_size ho) (Nat.le_trans I.sz h)) (Nat.lt_irrefl _)
theorem Inv.cne (I : Inv X pins σ H s) : ∀ x c, X.env.cells.lookup x = some c → c ≠ X.env.locals := fun x c e z => by
  obtain ⟨v, o, ho, hd⟩ := I.cell x c e
  obtain ⟨m, ⟨o', es, ep, ho', hd', _⟩, _⟩ := I.loc
  rw [z, ho'] at ho; cases ho; rw [hd'] at hd; cases hd
theorem Inv.funs (I : Inv X pins σ H s) : s.heap.FunFrames X.base X.outer := by
  have all : ∀ (l : List Env), (∀ b ∈ frs l, b ∈ X.fs) → X.s₀.heap.FunFrames X.base l → s.heap.FunFrames X.base l := by
    intro l
    induction l with
    | nil => intro _ _; trivial
    | cons env r ih =>
      intro hs hl
      obtain ⟨hk, ⟨L, o, hf, hn, ho, hd⟩, hr⟩ := hl
      have hL : L ∈ X.fs := hs L (by unfold frs; rw [List.filterMap_cons, hf]; exact List.mem_cons_self)
      obtain ⟨sl, e⟩ := I.base.slot L o ho (I.ok.frf L hL) hL fun z => I.ok.exfs L z hL
      exact ⟨hk, ⟨L, _, hf, hn, e, hd⟩, ih (fun b hb => hs b (by unfold frs; rw [List.filterMap_cons, hf]; exact List.mem_cons_of_mem _ hb)) hr⟩
  exact all X.outer (fun _ hb => hb) I.ok.funs
/-- the frames that run, for a call -/
theorem Inv.stack (I : Inv X pins σ H s) : s.heap.FunFrames X.base X.stack := by
  rcases I.ok.stk with e | ⟨e, hf⟩
  · rw [e]; exact I.funs
  · rw [e]
    obtain ⟨m, hn, _⟩ := I.loc
    refine .cons (by rw [I.ok.kind]; decide) hf hn ?_ I.funs
    exact Heap.get?_none_of_le (Nat.le_trans I.ok.bsz I.ok.above)
theorem Inv.stkSub (I : Inv X pins σ H s) : ∀ b ∈ frs X.stack, b ∈ X.env.locals :: X.fs := fun b hb => by
  rcases I.ok.stk with e | ⟨e, hf⟩
  · rw [e] at hb; exact List.mem_cons_of_mem _ hb
  · rw [e] at hb
    unfold frs at hb
    rw [List.filterMap_cons, hf] at hb
    exact hb
theorem Inv.stkFree (I : Inv X pins σ H s) : ∀ b ∈ frs X.stack, H b = none := fun b hb => by
  rcases List.mem_cons.mp (I.stkSub b hb) with e | hb
  · rw [e]; exact I.free
  · obtain ⟨_, o, ho, _⟩ := I.ok.funs.mem hb
    exact I.base.free b o ho (I.ok.frf b hb) fun z => I.ok.exfs b z hb
/-- THE STEP: the untracked objects but the frame and the records at ch are kept (the callers' frames up to slots), the frame's map is kept, the new abstract heap is held -/
theorem Inv.step {g' : Array GenState} {t' : Nat} {d' : Drawn} {ch : List Addr} (I : Inv X pins σ H s)
    (hch : ∀ b ∈ ch, (b ∈ X.ex ∨ X.s₀.heap.objs.size ≤ b) ∧ b ≠ X.env.locals ∧ (∀ x c, X.env.cells.lookup x = some c → c ≠ b) ∧ ∀ p ∈ X.pn ++ pins, p.1 ≠ b)
    (keep : ∀ b o, b ≠ X.env.locals → b ∉ X.fs → b ∉ ch → s.heap.get? b = some o → H b = none → h'.get? b = some o)
    (slot : ∀ b o, b ≠ X.env.locals → b ∈ X.fs → b ∉ ch → s.heap.get? b = some o → H b = none → ∃ sl, h'.get? b = some { o with slots := sl }) (free : ∀ b o, b ∉ ch → s.heap.get? b = some o → H b = none → H' b = none)
    (there : ∀ b o, b ∉ ch → s.heap.get? b = some o → ∃ o', h'.get? b = some o')
    (tups : ∀ b xs, H b = some (.tup xs) → H' b = some (.tup xs)) (frzs : ∀ b o u, H b = some (.frz o u) → H' b = some (.frz o u)) (tbls : ∀ b ps, H b = some (.tbl ps) → ∃ more, H' b = some (.tbl (ps ++ more)))
    (ns : ∀ m, s.heap.Ns X.env.locals m → h'.Ns X.env.locals m) (hok : HOk X.prog X.w H' h') (hg : AllBare g') :
    Inv X pins σ H' { s with heap := h', gens := g', drawn := d', toks := t' } := by
  have neL : ∀ b o, X.s₀.heap.get? b = some o → b ≠ X.env.locals := fun b o e => Nat.ne_of_lt (Nat.lt_of_lt_of_le (Heap.lt_size e) I.ok.above)
  have neC : ∀ b o, X.s₀.heap.get? b = some o → b ∉ X.ex → b ∉ ch := fun b o e hx hb => by
    rcases (hch b hb).1 with z | z
    · exact hx z
    · exact absurd (Nat.lt_of_lt_of_le (Heap.lt_size e) z) (Nat.lt_irrefl _)
  have cellK : ∀ x c, X.env.cells.lookup x = some c → ∀ v, s.heap.IsCell c v → h'.IsCell c v := fun x c e v ⟨o, ho, hd⟩ => by
    have nch : c ∉ ch := fun z => (hch c z).2.2.1 x c e rfl
    by_cases hc : c ∈ X.fs
    · obtain ⟨sl, q⟩ := slot c o (I.cne x c e) hc nch ho (I.freeC x c e)
      exact ⟨_, q, hd⟩
    · exact ⟨o, keep c o (I.cne x c e) hc nch ho (I.freeC x c e), hd⟩
  refine ⟨I.ok, I.os, hg, ⟨fun b o e n hb hx => ?_, fun b o e n hb hx => ?_, fun b o e n hx => ?_, fun b o e hx => ?_, fun b xs e => tups b xs (I.base.tups b xs e), fun b o xs e => frzs b o xs (I.base.frzs b o xs e), fun b ps e => ?_⟩, ?_, fun x c e => ?_, ?_, fun x c e => ?_, fun p hp => ?_, hok, I.len⟩
  · exact keep b o (neL b o e) hb (neC b o e hx) (I.base.keep b o e n hb hx) (I.base.free b o e n hx)
  · obtain ⟨sl, e1⟩ := I.base.slot b o e n hb hx
    obtain ⟨sl', e2⟩ := slot b _ (neL b o e) hb (neC b o e hx) e1 (I.base.free b o e n hx)
    exact ⟨sl', e2⟩
  · obtain ⟨o', e1⟩ := I.base.there b o e hx
    exact free b o' (neC b o e hx) e1 (I.base.free b o e n hx)
  · obtain ⟨o', e1⟩ := I.base.there b o e hx
    exact there b o' (neC b o e hx) e1
  · obtain ⟨m1, e1⟩ := I.base.tbls b ps e
    obtain ⟨m2, e2⟩ := tbls b _ e1
    exact ⟨m1 ++ m2, by rw [e2, Array.append_assoc]⟩
  · obtain ⟨m, hn, hl⟩ := I.loc
    refine ⟨m, ns m hn, fun i x v e1 e2 e3 => ?_⟩
    obtain ⟨u, r, l⟩ := hl i x v e1 e2 e3
    refine ⟨u, r, ?_⟩
    rcases l with l | ⟨k, c, e, z⟩
    · exact .inl l
    · exact .inr ⟨k, c, e, cellK x c e _ z⟩
  · obtain ⟨v, z⟩ := I.cell x c e
    exact ⟨v, cellK x c e v z⟩
  · obtain ⟨m, ⟨o, _, _, ho, _⟩, _⟩ := I.loc
    exact free _ o (fun z => (hch _ z).2.1 rfl) ho I.free
  · obtain ⟨v, o, ho, hd⟩ := I.cell x c e
    exact free c o (fun z => (hch c z).2.2.1 x c e rfl) ho (I.freeC x c e)
  · obtain ⟨e, n, ne, nf, d⟩ := I.pin p hp
    have nch : p.1 ∉ ch := fun z => (hch p.1 z).2.2.2 p hp rfl
    exact ⟨keep p.1 p.2 ne nf nch e n, free p.1 p.2 nch e n, ne, nf, d⟩
/-- .. where the frame's own object is kept too -/
theorem Inv.un {t' : Nat} (I : Inv X pins σ H s) (u : Un X.fs [] H H' s.heap h') (hok : HOk X.prog X.w H' h') : Inv X pins σ H' { s with heap := h', toks := t' } := by
  obtain ⟨m, ⟨o, es, ep, ho, r⟩, _⟩ := id I.loc
  obtain ⟨sl, hL⟩ := u.any ho I.free (by simp)
  exact I.step (g' := s.gens) (d' := s.drawn) (ch := []) (fun _ z => nomatch z) (fun b o _ hb _ e n => u.keep b o e n hb (by simp)) (fun b o _ hb _ e n => u.slot b o e n hb (by simp)) (fun b o _ e n => u.free b o e n (by simp)) (fun b o _ e => u.there b o e (by simp)) u.tups u.frzs u.tbls (fun m' hm => by
    obtain ⟨o', es', ep', ho', r'⟩ := hm
    rw [ho] at ho'; cases ho'
    exact ⟨_, es', ep', hL, r'⟩) hok I.bare
/-- behind a call (or a comprehension's block): the slots of this frame may have changed too, the records at ch may have turned -/
theorem Inv.call {g' : Array GenState} {t' : Nat} {d' : Drawn} {ch : List Addr} (I : Inv X pins σ H s) (u : Un (frs X.stack) ch H H' s.heap h') (hok : HOk X.prog X.w H' h') (hg : AllBare g')
    (hch : ∀ b ∈ ch, (b ∈ X.ex ∨ X.s₀.heap.objs.size ≤ b) ∧ b ≠ X.env.locals ∧ (∀ x c, X.env.cells.lookup x = some c → c ≠ b) ∧ ∀ p ∈ X.pn ++ pins, p.1 ≠ b) :
    Inv X pins σ H' { s with heap := h', gens := g', drawn := d', toks := t' } := by
  obtain ⟨m, ⟨o, es, ep, ho, r⟩, _⟩ := id I.loc
  obtain ⟨sl, hL⟩ := u.any ho I.free fun z => (hch _ z).2.1 rfl
  exact I.step (ch := ch) hch (fun b o hL hb hc e n => u.keep b o e n (fun z => (List.mem_cons.mp (I.stkSub b z)).elim hL hb) hc) (fun b o _ _ hc e n => u.any e n hc) (fun b o hc e n => u.free b o e n hc) (fun b o hc e => u.there b o e hc) u.tups u.frzs u.tbls (fun m' hm => by
    obtain ⟨o', es', ep', ho', r'⟩ := hm
    rw [ho] at ho'; cases ho'
    exact ⟨_, es', ep', hL, r'⟩) hok hg
/-- an untracked record of ours (an iterator) has turned -/
theorem Inv.turned {t' : Nat} {it : Addr} (I : Inv X pins σ H s) (k : ∀ b o, b ≠ it → s.heap.get? b = some o → h'.get? b = some o) (hn : H it = none) (hL : it ≠ X.env.locals)
    (h1 : it ∈ X.ex ∨ X.s₀.heap.objs.size ≤ it) (h2 : ∀ x c, X.env.cells.lookup x = some c → c ≠ it) (h3 : ∀ p ∈ X.pn ++ pins, p.1 ≠ it) : Inv X pins σ H { s with heap := h', toks := t' } := by
  have nit : ∀ b u, H b = some u → b ≠ it := fun b u e z => by rw [z, hn] at e; cases e
  refine I.step (g' := s.gens) (d' := s.drawn) (ch := [it]) (fun b hb => ?_) (fun b o _ _ hc e _ => k b o (fun z => hc (by simp [z])) e) (fun b o _ _ hc e _ => ⟨o.slots, k b o (fun z => hc (by simp [z])) e⟩) (fun _ _ _ _ n => n)
    (fun b o hc e => ⟨o, k b o (fun z => hc (by simp [z])) e⟩) (fun _ _ e => e) (fun _ _ _ e => e) (fun b ps e => ⟨#[], by rw [e]; simp⟩) (fun m hm => ?_) (fun b u e => ?_) I.bare
  · have e : b = it := by simpa using hb
    subst e
    exact ⟨h1, hL, h2, h3⟩
  · obtain ⟨o, es, ep, ho, r⟩ := hm
    exact ⟨o, es, ep, k _ o (Ne.symm hL) ho, r⟩
  · refine (I.hok b u e).stay (fun c v hc q => k c v ?_ q) (fun _ q => q) fun _ _ q => q
    rcases hc with z | z
    · rw [z]; exact nit b u e
    · exact nit c _ z
theorem Inv.tok (I : Inv X pins σ H s) (t : Nat) : Inv X pins σ H { s with toks := t } := I.un (h' := s.heap) (t' := t) Un.refl I.hok
/-- all objects kept -/
theorem Inv.kept {t' : Nat} (I : Inv X pins σ H s) (k : ∀ b u, s.heap.get? b = some u → h'.get? b = some u) : Inv X pins σ H { s with heap := h', toks := t' } := I.un (Un.kept k) (I.hok.kept k)
/-- a new object laid and tracked -/
theorem Inv.laid {a : Addr} {o : HO} {t' : Nat} (I : Inv X pins σ H s) (k : ∀ b u, s.heap.get? b = some u → h'.get? b = some u) (hp : s.heap.objs.size ≤ a) (new : ObjOk X.prog X.w (upd H a o) h' a o) :
    Inv X pins σ (upd H a o) { s with heap := h', toks := t' } := I.un (Un.laid k hp (I.hok.fresh hp)) (I.hok.laid k hp new)
/-- an object written -/
theorem Inv.write {x e : Addr} {o : HO} {t' : Nat} (I : Inv X pins σ H s) (mu : Mut (H x)) (he : e = x ∨ H e = some (.own x)) (k : ∀ b u, b ≠ e → s.heap.get? b = some u → h'.get? b = some u) (heo : ∃ u, h'.get? e = some u)
    (new : ObjOk X.prog X.w (upd H x o) h' x o) : Inv X pins σ (upd H x o) { s with heap := h', toks := t' } := I.un (Un.write mu he k heo) (I.hok.write mu he k heo new)
/-- forgetting slots, pins -/
theorem Inv.weak {σ' : List (Option V)} (I : Inv X pins σ H s) (hl : σ'.length = σ.length) (w : ∀ (i : Nat) v, σ'[i]? = some (some v) → σ[i]? = some (some v)) : Inv X pins σ' H s :=
  ⟨I.ok, I.os, I.bare, I.base, let ⟨m, hn, hl'⟩ := I.loc; ⟨m, hn, fun i x v e1 e2 e3 => hl' i x v e1 (w i v e2) e3⟩, I.cell, I.free, I.freeC, I.pin, I.hok, hl.trans I.len⟩
theorem Inv.pins_of {pins' : List (Addr × Obj)} (I : Inv X pins σ H s) (h : ∀ p ∈ pins', s.heap.get? p.1 = some p.2 ∧ H p.1 = none ∧ p.1 ≠ X.env.locals ∧ p.1 ∉ X.fs ∧ ∀ v, p.2.data ≠ .cell v) : Inv X pins' σ H s :=
  ⟨I.ok, I.os, I.bare, I.base, I.loc, I.cell, I.free, I.freeC, fun p hp => (List.mem_append.mp hp).elim (fun z => I.pin p (List.mem_append_left _ z)) (h p), I.hok, I.len⟩
theorem nodup_ix {N : List Str} (hN : N.Nodup) {i j : Nat} {x : Str} (a : N[i]? = some x) (b : N[j]? = some x) : i = j := by
  obtain ⟨h1, e1⟩ := List.getElem?_eq_some_iff.mp a
  obtain ⟨h2, e2⟩ := List.getElem?_eq_some_iff.mp b
  exact (List.getElem_inj hN).mp (e1.trans e2.symm)
/-- a name is stored; what changed -/
theorem store_ok2 {M : Model} {A : Around} {E : Value → Shared → Prop} {i : Nat} {x : Str} {v : V} {u : Value} {Q : Unit → Shared → Prop} (I : Inv X pins σ H s) (hN : X.N.Nodup) (hi : X.N[i]? = some x) (hx : Loc X.env.scope x) (r : RelV v u)
    (h : ∀ s', Inv X pins (σ.set i (some v)) H s' → (∃ a, Heap.SameBut a s.heap s'.heap ∧ (a = X.env.locals ∨ X.env.cells.lookup x = some a)) → Q () s') (hf : X.fn x = true ∨ X.env.scope.names.lookup x = some .local := by first | exact .inl rfl | exact .inr rfl | assumption) : wpAny M A (storeName X.env x u) Q E s := by
  obtain ⟨m, hn, hl⟩ := id I.loc
  have hcls : (X.env.scope.kind == .class || (X.env.scope.kind == .module && X.env.locals != X.env.globals)) = false := by rw [I.ok.kind]; rfl
  have hiσ : i < σ.length := by rw [I.len]; exact (List.getElem?_eq_some_iff.mp hi).1
  have cne := I.cne
  have tracked : ∀ {a : Addr} {h' : Heap}, (∃ o, s.heap.get? a = some o ∧ H a = none) → Heap.SameBut a s.heap h' → HOk X.prog X.w H h' := fun {a h'} ha hs b ob e => by
    obtain ⟨_, _, hfree⟩ := ha
    refine (I.hok b ob e).stay (fun c w' hc q => (hs.2 c ?_).trans q) (fun _ q => q) fun _ _ q => q
    rintro rfl
    rcases hc with rfl | hc
    · rw [hfree] at e; cases e
    · rw [hfree] at hc; cases hc
  rcases hx with hk | hk
  · refine wpAny_storeName_local hk hn (fun h' hn' hs => ?_) hcls
    obtain ⟨oL, _, _, hoL, _⟩ := id hn
    refine h _ ⟨I.ok, I.os, I.bare, ⟨fun b o e n hb hx => ?_, fun b o e n hb hx => ?_, I.base.free, fun b o e hx => ?_, I.base.tups, I.base.frzs, I.base.tbls⟩, ⟨_, hn', fun j y v' e1 e2 e3 => ?_⟩, fun y c e => ?_, I.free, I.freeC, fun p hp => ?_, tracked ⟨oL, hoL, I.free⟩ hs, by simpa using I.len⟩ ⟨_, hs, .inl rfl⟩
    · exact (hs.2 b (Nat.ne_of_lt (Nat.lt_of_lt_of_le (Heap.lt_size e) I.ok.above))).trans (I.base.keep b o e n hb hx)
    · obtain ⟨sl, e1⟩ := I.base.slot b o e n hb hx
      exact ⟨sl, (hs.2 b (Nat.ne_of_lt (Nat.lt_of_lt_of_le (Heap.lt_size e) I.ok.above))).trans e1⟩
    · obtain ⟨o', e1⟩ := I.base.there b o e hx
      exact ⟨o', (hs.2 b (Nat.ne_of_lt (Nat.lt_of_lt_of_le (Heap.lt_size e) I.ok.above))).trans e1⟩
    · by_cases hj : j = i
      · subst hj
        rw [hi] at e1; cases e1
        rw [List.getElem?_set_self hiσ] at e2
        cases e2
        exact ⟨u, r, .inl ⟨hk, by simp⟩⟩
      · rw [List.getElem?_set_ne (Ne.symm hj)] at e2
        obtain ⟨u', r', q⟩ := hl j y v' e1 e2 e3
        refine ⟨u', r', ?_⟩
        rcases q with ⟨k, e⟩ | ⟨k, c, e, z⟩
        · refine .inl ⟨k, ?_⟩
          have : y ≠ x := fun e => hj (nodup_ix hN e1 (e ▸ hi))
          simp [this, e]
        · exact .inr ⟨k, c, e, z.sameBut hs (cne y c e)⟩
    · obtain ⟨w', z⟩ := I.cell y c e
      exact ⟨w', z.sameBut hs (cne y c e)⟩
    · obtain ⟨e, n, ne, nf, d⟩ := I.pin p hp
      exact ⟨(hs.2 p.1 ne).trans e, n, ne, nf, d⟩
  · have hfn : X.fn x = true := by
      rcases hf with z | z
      · exact z
      · rw [z] at hk; cases hk
    obtain ⟨c, hc⟩ := I.ok.has x (.inl hk)
    obtain ⟨w', z⟩ := I.cell x c hc
    refine wpAny_storeName_cell I.ok.kind hk hc z (fun h' hc' hs => ?_)
    obtain ⟨oc, hoc, hocd⟩ := id z
    refine h { s with heap := h' } ⟨I.ok, I.os, I.bare, ⟨fun b o e n hb hx => ?_, fun b o e n hb hx => ?_, I.base.free, fun b o e hx => ?_, I.base.tups, I.base.frzs, I.base.tbls⟩, ⟨m, hn.sameBut hs (Ne.symm (cne x c hc)), fun j y v' e1 e2 e3 => ?_⟩, fun y c' e => ?_, I.free, I.freeC, fun p hp => ?_, tracked ⟨oc, hoc, I.freeC x c hc⟩ hs, by simpa using I.len⟩ ⟨c, hs, .inr hc⟩
    · exact (hs.2 b (Nat.ne_of_lt (Nat.lt_of_lt_of_le (Heap.lt_size e) (I.ok.cab x c hfn hc)))).trans (I.base.keep b o e n hb hx)
    · obtain ⟨sl, e1⟩ := I.base.slot b o e n hb hx
      exact ⟨sl, (hs.2 b (Nat.ne_of_lt (Nat.lt_of_lt_of_le (Heap.lt_size e) (I.ok.cab x c hfn hc)))).trans e1⟩
    · obtain ⟨o', e1⟩ := I.base.there b o e hx
      exact ⟨o', (hs.2 b (Nat.ne_of_lt (Nat.lt_of_lt_of_le (Heap.lt_size e) (I.ok.cab x c hfn hc)))).trans e1⟩
    · by_cases hj : j = i
      · subst hj
        rw [hi] at e1; cases e1
        rw [List.getElem?_set_self hiσ] at e2
        cases e2
        exact ⟨u, r, .inr ⟨.inl hk, c, hc, hc'⟩⟩
      · rw [List.getElem?_set_ne (Ne.symm hj)] at e2
        obtain ⟨u', r', q⟩ := hl j y v' e1 e2 e3
        refine ⟨u', r', ?_⟩
        rcases q with q | ⟨k, c', e, z'⟩
        · exact .inl q
        · refine .inr ⟨k, c', e, z'.sameBut hs ?_⟩
          rintro rfl
          exact hj (nodup_ix hN e1 (I.ok.inj _ _ _ e hc ▸ hi))
    · by_cases hcc : c' = c
      · subst hcc; exact ⟨_, hc'⟩
      · obtain ⟨w2, z2⟩ := I.cell y c' e
        exact ⟨w2, z2.sameBut hs hcc⟩
    · obtain ⟨e, n, ne, nf, d⟩ := I.pin p hp
      refine ⟨(hs.2 p.1 ?_).trans e, n, ne, nf, d⟩
      intro q
      rw [q, hoc] at e
      have q' : oc = p.2 := Option.some.inj e
      exact d w' (by rw [← q']; exact hocd)
theorem store_ok {M : Model} {A : Around} {E : Value → Shared → Prop} {i : Nat} {x : Str} {v : V} {u : Value} {Q : Unit → Shared → Prop} (I : Inv X pins σ H s) (hN : X.N.Nodup) (hi : X.N[i]? = some x) (hx : Loc X.env.scope x) (r : RelV v u)
    (h : ∀ s', Inv X pins (σ.set i (some v)) H s' → Q () s') (hf : X.fn x = true ∨ X.env.scope.names.lookup x = some .local := by first | exact .inl rfl | exact .inr rfl | assumption) : wpAny M A (storeName X.env x u) Q E s :=
  store_ok2 I hN hi hx r (fun s' I' _ => h s' I') hf
/-- behind a call or a block, the state as it is -/
theorem Inv.call' {s' : Shared} {ch : List Addr} (I : Inv X pins σ H s) (ho : s'.os = s.os) (u : Un (frs X.stack) ch H H' s.heap s'.heap) (hok : HOk X.prog X.w H' s'.heap) (hg : AllBare s'.gens)
    (hch : ∀ b ∈ ch, (b ∈ X.ex ∨ X.s₀.heap.objs.size ≤ b) ∧ b ≠ X.env.locals ∧ (∀ x c, X.env.cells.lookup x = some c → c ≠ b) ∧ ∀ p ∈ X.pn ++ pins, p.1 ≠ b) : Inv X pins σ H' s' := by
  obtain ⟨h', g', d', t', o'⟩ := s'
  have e : o' = s.os := ho
  subst e
  exact I.call (g' := g') (t' := t') (d' := d') u hok hg hch
end
/-- an exception: its class, its own dict's address (where it has one), the abstract heap behind it -/
abbrev XK := Value → Option Addr → Hp → Prop
abbrev St := List (Option V)
abbrev VK := V → Hp → Prop
/-- an expression's reading; a test's; an argument list's -/
abbrev TE := St → Hp → VK → Prop
abbrev TT := St → Hp → (Bool → Hp → Prop) → Prop
abbrev TA := St → Hp → (List V → Hp → Prop) → Prop
/-- what is wanted behind a statement -/
structure Ends where
  nx : St → Hp → Prop
  rt : VK
  bk : St → Hp → Prop := fun _ _ => False
  ct : St → Hp → Prop := fun _ _ => False
abbrev TS := Ends → St → Hp → Prop
def EP (X : Cx) (pins : List (Addr × Obj)) (σ : St) (Q : VK) (u : Value) (s' : Shared) : Prop := ∃ v H', Inv X pins σ H' s' ∧ RelV v u ∧ Q v H'
def TP (X : Cx) (pins : List (Addr × Obj)) (σ : St) (Q : Bool → Hp → Prop) (b : Bool) (s' : Shared) : Prop := ∃ H', Inv X pins σ H' s' ∧ Q b H'
def AP (X : Cx) (pins : List (Addr × Obj)) (σ : St) (Q : List V → Hp → Prop) (us : List Value) (s' : Shared) : Prop := ∃ vs H', Inv X pins σ H' s' ∧ Vals vs us ∧ Q vs H'
def SP (X : Cx) (pins : List (Addr × Obj)) (D : Ends) (f : Flow) (s' : Shared) : Prop :=
  match f with
  | .next => ∃ σ' H', Inv X pins σ' H' s' ∧ D.nx σ' H'
  | .brk => ∃ σ' H', Inv X pins σ' H' s' ∧ D.bk σ' H'
  | .cont => ∃ σ' H', Inv X pins σ' H' s' ∧ D.ct σ' H'
  | .ret u => ∃ v σ' H', Inv X pins σ' H' s' ∧ RelV v u ∧ D.rt v H'
def PE (X : Cx) (e : Expr) (t : TE) : Prop :=
  ∀ (pins : List (Addr × Obj)) (s : Shared) (σ : St) (H : Hp) (Q : VK), Inv X pins σ H s → t σ H Q → wpAny (model X.prog X.w) X.A (eval e X.env) (EP X pins σ Q) X.xe s
def PT (X : Cx) (e : Expr) (t : TT) : Prop :=
  ∀ (pins : List (Addr × Obj)) (s : Shared) (σ : St) (H : Hp) (Q : Bool → Hp → Prop), Inv X pins σ H s → t σ H Q → wpAny (model X.prog X.w) X.A (isTrue e X.env (eval e X.env)) (TP X pins σ Q) X.xe s
/-- a test whatever its 'whole' is (and, or) -/
def PW (X : Cx) (e : Expr) (t : TT) : Prop :=
  ∀ (whole : Sem Value) (pins : List (Addr × Obj)) (s : Shared) (σ : St) (H : Hp) (Q : Bool → Hp → Prop), Inv X pins σ H s → t σ H Q → wpAny (model X.prog X.w) X.A (isTrue e X.env whole) (TP X pins σ Q) X.xe s
theorem PW.pt {X : Cx} {e : Expr} {t : TT} (h : PW X e t) : PT X e t := h _
/-- an argument list (no star), from the left -/
def PA (X : Cx) (es : List Expr) (t : TA) : Prop :=
  ∀ (pos : Pos) (pins : List (Addr × Obj)) (s : Shared) (σ : St) (H : Hp) (Q : List V → Hp → Prop), Inv X pins σ H s → t σ H Q → wpAny (model X.prog X.w) X.A (spliced (backTo pos (starEach es X.env))) (AP X pins σ Q) X.xe s
def PS (X : Cx) (st : Stmt) (t : TS) : Prop :=
  ∀ (pins : List (Addr × Obj)) (s : Shared) (σ : St) (H : Hp) (D : Ends), Inv X pins σ H s → t D σ H → wpAny (model X.prog X.w) X.A (exec st X.env) (SP X pins D) X.xe s
def PSs (X : Cx) (st : List Stmt) (t : TS) : Prop :=
  ∀ (pins : List (Addr × Obj)) (s : Shared) (σ : St) (H : Hp) (D : Ends), Inv X pins σ H s → t D σ H → wpAny (model X.prog X.w) X.A (execs st X.env) (SP X pins D) X.xe s
/-- weaken the end -/
theorem thn {α : Type} {t : Sem α} {Q Q' : α → Shared → Prop} {M : Model} {A : Around} {E : Value → Shared → Prop} {s : Shared} (h : wpAny M A t Q E s) (hQ : ∀ a s, Q a s → Q' a s) : wpAny M A t Q' E s := wpAny_mono h hQ fun _ _ x => x
end L2
namespace L2
open PySem PySem.Spec PyProof.Rows
section
variable {X : Cx}
def tVar (i : Nat) : TE := fun σ H Q => ∃ v, σ[i]? = some (some v) ∧ Q v H
def tC (v : V) : TE := fun _ H Q => Q v H
theorem pe_var {i : Nat} {x : Str} {pos : Pos} (hN : X.N[i]? = some x) (hv : Vis X.env.scope x) (hd : (x == ("__debug__" : Str)) = false := by decide) (hcd : (x == ("__classdict__" : Str)) = false := by decide) : PE X (.Name x pos) (tVar i) := by
  intro pins s σ H Q I h
  obtain ⟨v, e, h⟩ := h
  obtain ⟨m, hn, hl⟩ := I.loc
  obtain ⟨u, r, l⟩ := hl i x v hN e hv
  have fin : EP X pins σ Q u s := ⟨v, H, I, r, h⟩
  rcases l with ⟨hk, hm⟩ | ⟨hk, c, hc, hcell⟩
  · exact wpAny_Name (wpAny_loadName_local I.ok.kind hk hn hm fin) hd
  · rcases hk with hk | hk
    · exact wpAny_Name (wpAny_loadName_cell I.ok.kind hk hc hcell fin) hd
    · exact wpAny_Name (wpAny_loadName_free I.ok.kind hk hc hcell fin hcd) hd
theorem pe_int {i j pos} : PE X (.Constant (.int i) j pos) (tC (.int i)) := fun _ _ _ H _ I h => wpAny_Constant_int ⟨.int i, H, I.tok _, ⟨_, rfl⟩, h⟩
theorem pe_bl {b j pos} : PE X (.Constant (.bool b) j pos) (tC (.bl b)) := fun _ _ _ H _ I h => Constant_bool ⟨.bl b, H, I, rfl, h⟩
theorem pe_non {j pos} : PE X (.Constant .none j pos) (tC .non) := fun _ _ _ H _ I h => Constant_none ⟨.non, H, I, rfl, h⟩
theorem pe_str {x j pos} : PE X (.Constant (.str x) j pos) (tC (.str x)) := fun _ _ _ H _ I h => Calls.Constant_str ⟨.str x, H, I.tok _, ⟨_, rfl⟩, h⟩
/-- a global name of the def -/
def Gl (X : Cx) (x : Str) : Prop := X.env.kindOf x = some .globalImplicit
theorem ld_glob {E : Value → Shared → Prop} {pins : List (Addr × Obj)} {s : Shared} {σ : St} {H : Hp} {x : Str} {u : Value} {pos : Pos} {Q : Value → Shared → Prop} (I : Inv X pins σ H s) (hg : Gl X x) (hm : X.mg x = some u) (h : Q u s)
    (hd : (x == ("__debug__" : Str)) = false := by decide) : wpAny (model X.prog X.w) X.A (eval (.Name x pos) X.env) Q E s :=
  Calls.Name_function_global I.ok.kind hg (Calls.loadGlobal_global (by rw [I.ok.glob]; exact I.mod.glob.keeps I.bk) hm h) hd
theorem ld_blt {E : Value → Shared → Prop} {pins : List (Addr × Obj)} {s : Shared} {σ : St} {H : Hp} {x : Str} {u : Value} {pos : Pos} {Q : Value → Shared → Prop} (I : Inv X pins σ H s) (hg : Gl X x) (hm : X.mg x = none) (hv : bootBuiltins x = some u) (h : Q u s)
    (hn : x ≠ "__name__" := by decide) (hd : (x == ("__debug__" : Str)) = false := by decide) : wpAny (model X.prog X.w) X.A (eval (.Name x pos) X.env) Q E s := by
  obtain ⟨mb, h1, h2⟩ := I.mod.blt
  exact Calls.Name_function_global I.ok.kind hg (Calls.loadGlobal_builtin (by rw [I.ok.glob]; exact I.mod.glob.keeps I.bk) hm (by rw [I.ok.blt]; exact h1.keeps I.bk) ((h2 x hn).trans hv) h) hd
/-- a module's constant, a class, a function, as a value -/
theorem pe_glob {x : Str} {v : V} {u : Value} {pos : Pos} (hg : Gl X x) (hm : X.mg x = some u) (r : RelV v u) (hd : (x == ("__debug__" : Str)) = false := by decide) : PE X (.Name x pos) (tC v) :=
  fun _ _ _ H _ I h => ld_glob I hg hm ⟨v, H, I, r, h⟩ hd
theorem pe_bltn {x : Str} {v : V} {u : Value} {pos : Pos} (hg : Gl X x) (hm : X.mg x = none) (hv : bootBuiltins x = some u) (r : RelV v u) (hn : x ≠ "__name__" := by decide) (hd : (x == ("__debug__" : Str)) = false := by decide) : PE X (.Name x pos) (tC v) :=
  fun _ _ _ H _ I h => ld_blt I hg hm hv ⟨v, H, I, r, h⟩ hn hd
variable {a b : Expr} {ta tb : TE} {pos : Pos}
/-- a comparison as a value, as a test -/
def tB (t : TE) : TT := fun σ H Q => t σ H fun x H1 => ∃ c, x = .bl c ∧ Q c H1
/-- an expression whose value is a bool, as a test -/
theorem pt_val {e : Expr} {t : TE} (h : PE X e t) (he : ∀ whole, isTrue e X.env whole = (do let v ← whole; standAt e.pos; holding [v] (truthy v)) := by intro _; rfl) : PT X e (tB t) := by
  intro pins s σ H Q I hw
  refine isTrue_plain (thn (h pins s σ H _ I hw) fun v s1 ⟨x, H1, I1, r1, q1⟩ => ?_) (he _)
  obtain ⟨d, rfl, q⟩ := q1
  cases r1
  exact wpAny_truthy_bool ⟨H1, I1, q⟩
variable {tA tB' : TT} {rest : List Expr}
def tAnd (t u : TT) : TT := fun σ H Q => t σ H fun c H1 => if c = true then u σ H1 Q else Q false H1
def tOr (t u : TT) : TT := fun σ H Q => t σ H fun c H1 => if c = true then Q true H1 else u σ H1 Q
def tNot (t : TT) : TT := fun σ H Q => t σ H fun c H1 => Q (!c) H1
theorem pw_and1 (ha : PT X a tA) : PW X (.BoolOp .And [a] pos) tA := by
  intro wh pins s σ H Q I h
  refine isTrue_and (thn (ha pins s σ H Q I h) fun c s1 e => ?_)
  cases c with
  | true => exact isTrue_and_nil e
  | false => exact e
theorem pw_or1 (ha : PT X a tA) : PW X (.BoolOp .Or [a] pos) tA := by
  intro wh pins s σ H Q I h
  refine isTrue_or (thn (ha pins s σ H Q I h) fun c s1 e => ?_)
  cases c with
  | false => exact isTrue_or_nil e
  | true => exact e
theorem pw_and (ha : PT X a tA) (hb : PW X (.BoolOp .And (b :: rest) pos) tB') : PW X (.BoolOp .And (a :: b :: rest) pos) (tAnd tA tB') := by
  intro wh pins s σ H Q I h
  refine isTrue_and (thn (ha pins s σ H _ I h) fun c s1 ⟨H1, I1, q1⟩ => ?_)
  cases c with
  | true => exact hb wh pins s1 σ H1 Q I1 q1
  | false => exact ⟨H1, I1, q1⟩
theorem pw_or (ha : PT X a tA) (hb : PW X (.BoolOp .Or (b :: rest) pos) tB') : PW X (.BoolOp .Or (a :: b :: rest) pos) (tOr tA tB') := by
  intro wh pins s σ H Q I h
  refine isTrue_or (thn (ha pins s σ H _ I h) fun c s1 ⟨H1, I1, q1⟩ => ?_)
  cases c with
  | true => exact ⟨H1, I1, q1⟩
  | false => exact hb wh pins s1 σ H1 Q I1 q1
theorem pt_not (ha : PT X a tA) : PT X (.UnaryOp .Not a pos) (tNot tA) := by
  intro pins s σ H Q I h
  exact isTrue_not (ha pins s σ H (fun c H1 => Q (!c) H1) I h)
end
end L2
namespace L2
open PySem PySem.Spec PyProof.Rows
def SqL (K : PySem.W.Frag) (H : Hp) (a : Addr) (xs : List V) : Prop :=
  Rd H a (.lst xs) ∨
    ∃ (o : Obj) (its : Array Value) (n : Nat), K.lookup a = some o ∧ o.cls = .type "list" ∧ o.dict = none ∧ o.data = .seq its n ∧ its.size ≤ sizeLine ∧ Vals xs its.toList
def SqT (K : PySem.W.Frag) (H : Hp) (a : Addr) (xs : List V) : Prop :=
  Rd H a (.tup xs) ∨
    ∃ (o : Obj) (its : Array Value) (n : Nat), K.lookup a = some o ∧ o.cls = .type "tuple" ∧ o.data = .seq its n ∧ its.size ≤ sizeLine ∧ Vals xs its.toList
def absV : Value → Option V
  | .none => some .non
  | .bool b => some (.bl b)
  | .int i _ => some (.int i)
  | .str x _ => some (.str x)
  | .bytes b _ => some (.byt b)
  | .float b _ => some (.flt b)
  | .ref a => some (.ref a)
  | .type n => some (.ty n)
  | _ => none
theorem RelV.abs {x : V} {u : Value} (r : RelV x u) : absV u = some x := by
  cases x with
  | non => cases r; rfl
  | bl _ => cases r; rfl
  | int _ => obtain ⟨t, rfl⟩ := r; rfl
  | str _ => obtain ⟨t, rfl⟩ := r; rfl
  | byt _ => obtain ⟨t, rfl⟩ := r; rfl
  | flt _ => obtain ⟨t, rfl⟩ := r; rfl
  | ref _ => cases r; rfl
  | ty _ => cases r; rfl
theorem RelV.inj {x y : V} {u : Value} (r : RelV x u) (q : RelV y u) : x = y := Option.some.inj (r.abs.symm.trans q.abs)
theorem Vals.inj : ∀ {xs ys : List V} {us : List Value}, Vals xs us → Vals ys us → xs = ys
  | _, _, _, .nil, .nil => rfl
  | _, _, _, .cons r t, .cons r' t' => by rw [r.inj r', Vals.inj t t']
section
variable {X : Cx} {pins : List (Addr × Obj)} {σ : St} {H : Hp} {s : Shared} {a : Addr} {xs ys : List V}
theorem SqL.of {K : PySem.W.Frag} (h : H a = some (.lst xs)) : SqL K H a xs := .inl (.inl h)
theorem SqT.of {K : PySem.W.Frag} (h : H a = some (.tup xs)) : SqT K H a xs := .inl (.inl h)
theorem Inv.list (I : Inv X pins σ H s) (h : SqL X.K H a xs) : ∃ its : List Value, Vals xs its ∧ PlainL s.heap a its.toArray ∧ xs.length ≤ sizeLine := by
  rcases h with h | ⟨o, its, n, hk, hc, hd, hs, hz, r⟩
  · obtain ⟨z, its, n, r, e⟩ := h.ok I.hok
    exact ⟨its, r, ⟨_, n, e, rfl, rfl, rfl⟩, z⟩
  · refine ⟨its.toList, r, ⟨o, n, I.kIn a o hk, hc, hd, by simpa using hs⟩, ?_⟩
    have e := r.length
    simp only [Array.length_toList] at e
    omega
theorem Inv.tuple (I : Inv X pins σ H s) (h : SqT X.K H a xs) : ∃ its : List Value, Vals xs its ∧ IsTup s.heap a its.toArray ∧ xs.length ≤ sizeLine := by
  rcases h with h | ⟨o, its, n, hk, hc, hs, hz, r⟩
  · obtain ⟨z, its, r, p⟩ := h.ok I.hok
    exact ⟨its, r, p, z⟩
  · refine ⟨its.toList, r, ⟨o, I.kIn a o hk, hc, n, by simpa using hs⟩, ?_⟩
    have e := r.length
    simp only [Array.length_toList] at e
    omega
theorem Inv.list_inj (I : Inv X pins σ H s) (h : SqL X.K H a xs) (h' : SqL X.K H a ys) : xs = ys := by
  obtain ⟨its, r, ⟨o, n, e, _, _, d⟩, _⟩ := I.list h
  obtain ⟨its', r', ⟨o', n', e', _, _, d'⟩, _⟩ := I.list h'
  rw [e] at e'; cases e'
  rw [d] at d'
  injection d' with d1 _
  have : its = its' := by simpa using congrArg Array.toList d1
  subst this
  exact r.inj r'
end
abbrev Cx.wish (X : Cx) (E : Value → Shared → Prop) : Cx := { X with xe := E }
/-- no exception leaves -/
abbrev Cx.nox (X : Cx) : Cx := X.wish fun _ _ => False
theorem Cx.Ok.wish {X : Cx} (ok : X.Ok) (E : Value → Shared → Prop) : (X.wish E).Ok :=
  ⟨ok.mod, ok.kind, ok.glob, ok.blt, ok.above, ok.inj, ok.has, ok.cab, ok.hd, ok.frames, ok.stk, ok.exf, ok.bs, ok.bsz, ok.noex, ok.exfs, ok.funs, ok.frf⟩
theorem Cx.Ok.unwish {X : Cx} {E : Value → Shared → Prop} (ok : (X.wish E).Ok) : X.Ok :=
  ⟨ok.mod, ok.kind, ok.glob, ok.blt, ok.above, ok.inj, ok.has, ok.cab, ok.hd, ok.frames, ok.stk, ok.exf, ok.bs, ok.bsz, ok.noex, ok.exfs, ok.funs, ok.frf⟩
section
variable {X : Cx} {pins : List (Addr × Obj)} {σ : St} {H : Hp} {s : Shared} {E : Value → Shared → Prop}
theorem Inv.wish (I : Inv X pins σ H s) (E : Value → Shared → Prop) : Inv (X.wish E) pins σ H s := ⟨I.ok.wish E, I.os, I.bare, I.base, I.loc, I.cell, I.free, I.freeC, I.pin, I.hok, I.len⟩
theorem Inv.unwish (I : Inv (X.wish E) pins σ H s) : Inv X pins σ H s := ⟨I.ok.unwish, I.os, I.bare, I.base, I.loc, I.cell, I.free, I.freeC, I.pin, I.hok, I.len⟩
theorem SP.unwish {D : Ends} {f : Flow} {s' : Shared} (h : SP (X.wish E) pins D f s') : SP X pins D f s' := by
  cases f with
  | next => obtain ⟨σ', H', I, q⟩ := h; exact ⟨σ', H', I.unwish, q⟩
  | brk => obtain ⟨σ', H', I, q⟩ := h; exact ⟨σ', H', I.unwish, q⟩
  | cont => obtain ⟨σ', H', I, q⟩ := h; exact ⟨σ', H', I.unwish, q⟩
  | ret u => obtain ⟨v, σ', H', I, r, q⟩ := h; exact ⟨v, σ', H', I.unwish, r, q⟩
theorem PSs.nox {st : List Stmt} {t : TS} (h : PSs X.nox st t) : PSs X st t := fun pins s σ H D I hw =>
  wpAny_mono (h pins s σ H D (I.wish _) hw) (fun _ _ q => q.unwish) fun _ _ z => False.elim z
end
section
variable {X : Cx} {st : Stmt} {rest : List Stmt} {t u : TS} {e : Expr} {te : TE} {pos : Pos}
def tNext : TS := fun D σ H => D.nx σ H
def tSeq (t u : TS) : TS := fun D σ H => t { D with nx := u D } σ H
theorem pss_nil : PSs X [] tNext := fun _ _ σ H _ I h => wpAny_execs_nil ⟨σ, H, I, h⟩
theorem pss_cons (h1 : PS X st t) (h2 : PSs X rest u) : PSs X (st :: rest) (tSeq t u) := by
  intro pins s σ H D I h
  refine wpAny_execs_cons (thn (h1 pins s σ H { D with nx := u D } I h) fun f s1 q => ?_)
  cases f with
  | next =>
    obtain ⟨σ', H', I', q⟩ := q
    exact h2 pins s1 σ' H' D I' q
  | ret v => exact q
  | brk => exact q
  | cont => exact q
theorem pss_one (h1 : PS X st t) : PSs X [st] t := by
  intro pins s σ H D I h
  refine wpAny_execs_cons (thn (h1 pins s σ H D I h) fun f s1 q => ?_)
  cases f with
  | next => exact wpAny_execs_nil q
  | ret v => exact q
  | brk => exact q
  | cont => exact q
/-- in a def's body nothing is shown -/
theorem Inv.quiet {pins : List (Addr × Obj)} {σ : St} {H : Hp} {s : Shared} (I : Inv X pins σ H s) : interactive X.env = false := by simp [interactive, I.ok.kind]
/-- an expression whose value is dropped -/
def tDrop (te : TE) : TS := fun D σ H => te σ H fun _ H1 => D.nx σ H1
theorem ps_expr (he : PE X e te) (hs : swapsWith e none pos.line X.env = pure false := by rfl) : PS X (.Expr e pos) (tDrop te) := by
  intro pins s σ H D I h
  exact wpAny_Expr_any (thn (he pins s σ H _ I h) fun v s1 ⟨x, H1, I1, r1, q1⟩ => ⟨σ, H1, I1, q1⟩) I.quiet hs
def tRet (te : TE) : TS := fun D σ H => te σ H D.rt
theorem ps_ret (he : PE X e te) : PS X (.Return (some e) pos) (tRet te) := by
  intro pins s σ H D I h
  exact wpAny_Return_some (thn (he pins s σ H _ I h) fun v s1 ⟨x, H1, I1, r1, q1⟩ => ⟨x, σ, H1, I1, r1, q1⟩)
def tIfS (c : TT) (t u : TS) : TS := fun D σ H => c σ H fun b H1 => if b = true then t D σ H1 else u D σ H1
theorem ps_if {c : Expr} {a b : List Stmt} {tc : TT} (hc : PT X c tc) (ha : PSs X a t) (hb : PSs X b u) : PS X (.If c a b pos) (tIfS tc t u) := by
  intro pins s σ H D I h
  refine wpAny_If (thn (hc pins s σ H _ I h) fun d s1 ⟨H1, I1, q1⟩ => ?_)
  cases d with
  | true => exact ha pins s1 σ H1 D I1 q1
  | false => exact hb pins s1 σ H1 D I1 q1
end
abbrev TG := V → St → Hp → (St → Hp → Prop) → Prop
abbrev TGs := List V → St → Hp → (St → Hp → Prop) → Prop
def PG (X : Cx) (target : Expr) (t : TG) : Prop :=
  ∀ (pins : List (Addr × Obj)) (s : Shared) (σ : St) (H : Hp) (v : V) (u : Value) (Q : St → Hp → Prop), Inv X pins σ H s → RelV v u → t v σ H Q →
    wpAny (model X.prog X.w) X.A (assign target X.env u) (fun _ s' => ∃ σ' H', Inv X pins σ' H' s' ∧ Q σ' H') X.xe s
/-- several targets, one after another -/
def PGs (X : Cx) (ts : List Expr) (t : TGs) : Prop :=
  ∀ (pins : List (Addr × Obj)) (s : Shared) (σ : St) (H : Hp) (vs : List V) (us : List Value) (Q : St → Hp → Prop), Inv X pins σ H s → Vals vs us → t vs σ H Q →
    wpAny (model X.prog X.w) X.A (assignInOrder ((assignEach ts X.env).map (·.2)) us) (fun _ s' => ∃ σ' H', Inv X pins σ' H' s' ∧ Q σ' H') X.xe s
section
variable {X : Cx} {pos : Pos}
def gName (i : Nat) : TG := fun v σ H Q => Q (σ.set i (some v)) H
theorem pg_name {i : Nat} {x : Str} (hN : X.N.Nodup) (hi : X.N[i]? = some x) (hx : Loc X.env.scope x) (hf : X.fn x = true ∨ X.env.scope.names.lookup x = some .local := by first | exact .inl rfl | exact .inr rfl | assumption) : PG X (.Name x pos) (gName i) := by
  intro pins s σ H v u Q I r h
  exact wpAny_assign_Name (store_ok I hN hi hx r (fun s' I' => ⟨_, H, I', h⟩) hf)
def gNil : TGs := fun vs σ H Q => vs = [] ∧ Q σ H
def gCons (t : TG) (u : TGs) : TGs := fun vs σ H Q => ∃ v r, vs = v :: r ∧ t v σ H fun σ' H' => u r σ' H' Q
theorem pgs_nil : PGs X [] gNil := by
  intro pins s σ H vs us Q I r h
  obtain ⟨e, h⟩ := h
  subst e
  cases r
  exact assignInOrder_nil ⟨σ, H, I, h⟩
theorem pgs_cons {e : Expr} {es : List Expr} {t : TG} {u : TGs} (h1 : PG X e t) (h2 : PGs X es u)
    (hs : (assignEach (e :: es) X.env).map (·.2) = assign e X.env :: (assignEach es X.env).map (·.2) := by rfl) : PGs X (e :: es) (gCons t u) := by
  intro pins s σ H vs us Q I r h
  obtain ⟨v, vr, e1, h⟩ := h
  subst e1
  cases r with
  | cons r rr =>
    rw [hs]
    refine assignInOrder_cons (thn (h1 pins s σ H _ _ _ I r h) fun _ s1 ⟨σ1, H1, I1, q1⟩ => ?_)
    exact h2 pins s1 σ1 H1 _ _ Q I1 rr q1
/-- (a, b, ..) = a tuple of that length -/
def gTup (K : PySem.W.Frag) (n : Nat) (t : TGs) : TG := fun v σ H Q => ∃ a xs, v = .ref a ∧ SqT K H a xs ∧ xs.length = n ∧ t xs σ H Q
theorem pg_tup {es : List Expr} {k : Nat} {t : TGs} {n : Nat} (hc : X.calm = true) (h : PGs X es t)
    (hn : (assignEach es X.env).length = n := by rfl) (hst : (assignEach es X.env).findIdx? (·.1) = none := by rfl) : PG X (.Tuple es k pos) (gTup X.K n t) := by
  intro pins s σ H v u Q I r hw
  obtain ⟨a, xs, e1, hq, hl, hw⟩ := hw
  subst e1
  cases r
  obtain ⟨its, rv, ht, hz⟩ := I.tuple hq
  refine assign_Tuple_tuple (I.ok.hd hc) ht (by simp [hn, ← hl, rv.length]) hst fun h' hx => ?_
  have I1 : Inv X pins σ H { s with heap := h' } := I.kept (t' := s.toks) fun b o e => hx b o (Nat.ne_of_lt (Heap.lt_size e)) e
  exact h pins _ σ H xs _ Q I1 (by simpa using rv) hw
/-- target = value -/
def tAsg (te : TE) (g : TG) : TS := fun D σ H => te σ H fun x H1 => g x σ H1 D.nx
/-- name = value -/
theorem ps_set {i : Nat} {x : Str} {e : Expr} {te : TE} {pos' : Pos} (hN : X.N.Nodup) (hi : X.N[i]? = some x) (hx : Loc X.env.scope x) (he : PE X e te) (hs : swapsWith e (some (.Name x pos')) pos.line X.env = pure false := by rfl) (hf : X.fn x = true ∨ X.env.scope.names.lookup x = some .local := by first | exact .inl rfl | exact .inr rfl | assumption) :
    PS X (.Assign [.Name x pos'] e pos) (tAsg te (gName i)) := by
  intro pins s σ H D I h
  refine wpAny_Assign_Name (thn (he pins s σ H _ I h) fun v s1 ⟨y, H1, I1, r1, q1⟩ => ?_) hs
  exact store_ok I1 hN hi hx r1 (fun s2 I2 => ⟨_, H1, I2, q1⟩) hf
end
section
variable {X : Cx} {pos : Pos}
end
/-- at turn i: it yields x (the heap may grow), or it stops -/
structure It where
  go : Nat → Hp → Prop
  yld : Nat → Hp → V → Hp → Prop
  stop : Nat → Hp → Prop
/-- the iterator's own objects may turn: they are not the frame's, not pinned, younger than the entry (or a comprehension's own) -/
def FpOk (X : Cx) (pins : List (Addr × Obj)) (H : Hp) (b : Addr) : Prop :=
  H b = none ∧ b ≠ X.env.locals ∧ b ∉ X.fs ∧ (b ∈ X.ex ∨ X.s₀.heap.objs.size ≤ b) ∧ (∀ x c, X.env.cells.lookup x = some c → c ≠ b) ∧ ∀ p ∈ X.pn ++ pins, p.1 ≠ b
theorem Inv.fpOk {X : Cx} {pins : List (Addr × Obj)} {σ : St} {H H' : Hp} {s : Shared} {b : Addr} (I : Inv X pins σ H s) (hb : s.heap.objs.size ≤ b) (hn : H' b = none) : FpOk X pins H' b := by
  refine ⟨hn, Nat.ne_of_gt (Nat.lt_of_lt_of_le I.lt hb), I.nofs hb, .inr (Nat.le_trans I.sz hb), fun x c e z => ?_, fun p hp z => ?_⟩
  · obtain ⟨v, q⟩ := I.cell x c e
    exact absurd (Nat.lt_of_lt_of_le q.lt (by rw [z]; exact hb)) (Nat.lt_irrefl _)
  · exact absurd (Nat.lt_of_lt_of_le (Heap.lt_size (I.pin p hp).1) (by rw [z]; exact hb)) (Nat.lt_irrefl _)
structure Turn (P : Program) (w : World) (K : PySem.W.Frag) (tg : Expr) (J : It) (fp : List Addr) (it : Addr) (tn : Nat → Heap → Prop) : Prop where
  mem : it ∈ fp
  obj : ∀ i h, tn i h → ∀ b ∈ fp, ∃ o, h.get? b = some o ∧ ∀ v, o.data ≠ .cell v
  keep : ∀ i h h', tn i h → (∀ b ∈ fp, ∀ o, h.get? b = some o → h'.get? b = some o) → tn i h'
  item : ∀ (X : Cx), X.prog = P → X.w = w → X.K = K → X.calm = true → ∀ (i : Nat) (pins : List (Addr × Obj)) (s : Shared) (σ : St) (H : Hp) (E : Value → Shared → Prop), Inv X pins σ H s → (∀ b ∈ fp, FpOk X pins H b) → tn i s.heap → J.go i H →
    wpAny (model P w) X.A (pyNext (.ref it)) (fun r s1 => ∃ u, r = some u ∧
      wpAny (model P w) X.A (letOwnedTupleGo tg (.ref it) u) (fun _ s2 => ∃ x H', Inv X pins σ H' s2 ∧ RelV x u ∧ J.yld i H x H' ∧ tn (i + 1) s2.heap ∧ ∀ b ∈ fp, H' b = none) E s1) E s
  done : ∀ (X : Cx), X.prog = P → X.w = w → X.K = K → X.calm = true → ∀ (i : Nat) (pins : List (Addr × Obj)) (s : Shared) (σ : St) (H : Hp) (E : Value → Shared → Prop), Inv X pins σ H s → (∀ b ∈ fp, FpOk X pins H b) → tn i s.heap → J.stop i H →
    wpAny (model P w) X.A (pyNext (.ref it)) (fun r s1 => r = none ∧ Inv X pins σ H s1) E s
  self : ∀ (A : Around) (i : Nat) (s : Shared) (Q : Value → Shared → Prop) (E : Value → Shared → Prop), tn i s.heap → Q (.ref it) s → wpAny (model P w) A (pyIter (.ref it)) Q E s
abbrev TI := St → Hp → (It → Hp → Prop) → Prop
/-- an iterator has come -/
def PIE (X : Cx) (pins : List (Addr × Obj)) (σ : St) (tg : Expr) (R : It → Hp → Prop) (itv : Value) (s2 : Shared) : Prop :=
  ∃ (it : Addr) (fp : List Addr) (tn : Nat → Heap → Prop) (J : It) (H' : Hp), itv = .ref it ∧ Inv X pins σ H' s2 ∧ Turn X.prog X.w X.K tg J fp it tn ∧ tn 0 s2.heap ∧ (∀ b ∈ fp, FpOk X pins H' b) ∧ R J H'
def PI (X : Cx) (tg iter : Expr) (wi : TI) : Prop :=
  ∀ (pins : List (Addr × Obj)) (s : Shared) (σ : St) (H : Hp) (R : It → Hp → Prop), Inv X pins σ H s → wi σ H R →
    wpAny (model X.prog X.w) X.A (eval iter X.env) (fun v s1 => wpAny (model X.prog X.w) X.A (pyIter v) (PIE X pins σ tg R) X.xe s1) X.xe s
/-- the step ahead of the store is nothing for an iterator that keeps no tuple -/
theorem go_of {M : Model} {A : Around} {E : Value → Shared → Prop} {s : Shared} {tg : Expr} {it : Addr} {u : Value} {o : Obj} {n : String} {vs : Array Value} {Q : Unit → Shared → Prop} (ho : s.heap.get? it = some o) (hc : o.cls = .type n) (hd : o.data = .fields vs)
    (hn : ["enumerate", "zip", "dict_itemiterator", "dict_reverseitemiterator", "odict_iterator", "itertools.zip_longest", "itertools.pairwise"].contains n = false) (hQ : Q () s) : wpAny M A (letOwnedTupleGo tg (.ref it) u) Q E s := by
  unfold letOwnedTupleGo
  cases tg <;> first
    | exact wpAny_pure hQ
    | (cases u <;> first
        | exact wpAny_pure hQ
        | (refine wpAny_bind (wpAny_load ho ?_)
           rw [hc, hd]
           show wpAny M A (if (["enumerate", "zip", "dict_itemiterator", "dict_reverseitemiterator", "odict_iterator", "itertools.zip_longest", "itertools.pairwise"].contains n && vs[0]? == some (rawInt _)) = true then _ else _) Q E s
           rw [if_neg (by intro h; rw [hn, Bool.false_and] at h; cases h)]
           exact wpAny_pure hQ))
/-- the list at a, as it stands at each turn (a loop may append to it) -/
def Itl (K : PySem.W.Frag) (a : Addr) : It :=
  ⟨fun i H => ∃ xs x, SqL K H a xs ∧ xs[i]? = some x, fun i H x H' => H' = H ∧ ∀ xs, SqL K H a xs → xs[i]? = some x, fun i H => ∃ xs, SqL K H a xs ∧ xs.length ≤ i⟩
/-- lo, lo + 1, .. (n of them) -/
def Itr (lo : Int) (n : Nat) : It := ⟨fun i _ => i < n, fun i H x H' => H' = H ∧ x = .int (lo + i), fun i _ => n ≤ i⟩
theorem turn_list {P : Program} {w : World} {K : PySem.W.Frag} {tg : Expr} (a it : Addr) : Turn P w K tg (Itl K a) [it] it (fun i h => h.IsListIter it a i) where
  mem := by simp
  obj := fun i h st b hb => by
    have e : b = it := by simpa using hb
    subst e
    obtain ⟨o, e, c, d⟩ := st
    exact ⟨o, e, fun v z => by rw [d] at z; cases z⟩
  keep := fun i h h' st k => st.at fun o e => k it (by simp) o e
  item := by
    intro X hP hw hK hc i pins s σ H E I hf st hg
    subst hP hw hK
    obtain ⟨xs, x, hq, hx⟩ := hg
    obtain ⟨its, rv, p, hz⟩ := I.list hq
    obtain ⟨u, hu, ru⟩ := rv.get hx
    obtain ⟨f0, f1, f2, f3, f4, f5⟩ := hf it (by simp)
    refine wpAny_pyNext_list_item st p.isList (x := u) (by simpa using hu) fun h' st' sb => ?_
    have I1 : Inv X pins σ H { s with heap := h' } := I.turned (t' := s.toks) (fun b o hb e => (sb.2 b hb).trans e) f0 f1 f3 f4 f5
    obtain ⟨o, e, c, d⟩ := id st'
    exact ⟨u, rfl, go_of (s := { s with heap := h' }) e c d (by decide) ⟨x, H, I1, ru, ⟨rfl, fun ys hy => by rw [I.list_inj hy hq]; exact hx⟩, st', fun b hb => (hf b hb).1⟩⟩
  done := by
    intro X hP hw hK hc i pins s σ H E I hf st hg
    subst hP hw hK
    obtain ⟨xs, hq, hx⟩ := hg
    obtain ⟨its, rv, p, hz⟩ := I.list hq
    obtain ⟨f0, f1, f2, f3, f4, f5⟩ := hf it (by simp)
    have hl := rv.length
    exact wpAny_pyNext_list_end (I.ok.hd hc) st p.isList (by simp; omega) fun h' eb => ⟨rfl, I.turned (t' := s.toks) (fun b o hb e => eb b o hb e) f0 f1 f3 f4 f5⟩
  self := fun _ _ _ _ _ st h => wpAny_pyIter_listiter st h
theorem turn_range {P : Program} {w : World} {K : PySem.W.Frag} {tg : Expr} (it : Addr) (lo : Int) (n : Nat) : Turn P w K tg (Itr lo n) [it] it (fun i h => IsRangeIter h it (lo + (i : Nat) * 1) ((n : Int) - (i : Nat)) 1) where
  mem := by simp
  obj := fun i h st b hb => by
    have e : b = it := by simpa using hb
    subst e
    exact ⟨_, st, fun v z => by
      have z' : Data.fields _ = Data.cell v := z
      cases z'⟩
  keep := fun i h h' st k => k it (by simp) _ st
  item := by
    intro X hP hw hK hc i pins s σ H E I hf st hg
    subst hP hw hK
    obtain ⟨f0, f1, f2, f3, f4, f5⟩ := hf it (by simp)
    have W := Walks.range (prog := X.prog) (w := X.w) (I.ok.hd hc) it lo 1 n
    refine W.item i s _ _ hg st fun v h' tk hv st' kk => ?_
    obtain ⟨t, rfl⟩ := hv
    have I1 : Inv X pins σ H { s with heap := h', toks := tk } := I.turned (fun b o hb e => kk b o (by simpa using hb) e) f0 f1 f3 f4 f5
    refine ⟨_, rfl, go_of (s := { s with heap := h', toks := tk }) (n := "range_iterator") st' rfl rfl (by decide) ⟨.int (lo + i), H, I1, ⟨t, ?_⟩, ⟨rfl, rfl⟩, st', fun b hb => (hf b hb).1⟩⟩
    rw [Int.mul_one]
  done := by
    intro X hP hw hK hc i pins s σ H E I hf st hg
    subst hP hw hK
    obtain ⟨f0, f1, f2, f3, f4, f5⟩ := hf it (by simp)
    exact wpAny_pyNext_range_end (I.ok.hd hc) st (by have : n ≤ i := hg; omega) fun h' eb => ⟨rfl, I.turned (t' := s.toks) (fun b o hb e => eb b o hb e) f0 f1 f3 f4 f5⟩
  self := fun _ _ _ _ _ st h => wpAny_pyIter_rangeiter st h
end L2
namespace L2
open PySem PySem.Spec PyProof.Rows
section
variable {X : Cx} {tg : Expr}
def iList (K : PySem.W.Frag) (tl : TE) : TI := fun σ H R => tl σ H fun x H1 => ∃ a, x = .ref a ∧ (∃ xs, SqL K H1 a xs) ∧ R (Itl K a) H1
theorem pi_list {l : Expr} {tl : TE} (hl : PE X l tl) : PI X tg l (iList X.K tl) := by
  intro pins s σ H R I h
  refine thn (hl pins s σ H _ I h) fun v s1 ⟨x, H1, I1, r1, q1⟩ => ?_
  obtain ⟨a, e, ⟨xs, hq⟩, q⟩ := q1
  subst e
  cases r1
  obtain ⟨its, rv, p, hz⟩ := I1.list hq
  refine wpAny_pyIter_list p.isList ?_
  refine ⟨s1.heap.objs.size, [s1.heap.objs.size], _, _, H1, rfl, I1.kept (t' := s1.toks) fun b o e => Heap.get?_push_of_some _ e, turn_list a _, ⟨_, Heap.get?_push_size _ rfl, rfl, rfl⟩, fun b hb => ?_, q⟩
  have e : b = s1.heap.objs.size := by simpa using hb
  subst e
  exact I1.fpOk (Nat.le_refl _) (I1.hok.fresh (Nat.le_refl _))
/-- a range object just made, walked -/
theorem range_it {pins : List (Addr × Obj)} {σ : St} {H : Hp} {s : Shared} {R : It → Hp → Prop} {E : Value → Shared → Prop} {lo hi : Int} {t u v : Tok} {tk : Nat} (I : Inv X pins σ H s) (h1 : -(2 ^ 62) ≤ lo) (h2 : lo < 2 ^ 62) (h3 : -(2 ^ 62) ≤ hi) (h4 : hi < 2 ^ 62)
    (q : R (Itr lo (hi - lo).toNat) H) : wpAny (model X.prog X.w) X.A (pyIter (.ref s.heap.objs.size)) (PIE X pins σ tg R) E { s with heap := s.heap.push { cls := .type "range", data := .fields #[.int lo t, .int hi u, .int 1 v] }, toks := tk } := by
  refine wpAny_pyIter_range (IsRange.new ..) (small_one h1 h2 h3 h4) ?_
  have I1 : Inv X pins σ H { s with heap := s.heap.push { cls := .type "range", data := .fields #[.int lo t, .int hi u, .int 1 v] }, toks := tk } := I.kept fun b o e => Heap.get?_push_of_some _ e
  refine ⟨(s.heap.push { cls := .type "range", data := .fields #[.int lo t, .int hi u, .int 1 v] }).objs.size, [(s.heap.push { cls := .type "range", data := .fields #[.int lo t, .int hi u, .int 1 v] }).objs.size], _, _, H, rfl,
    I1.kept (t' := tk) fun b o e => Heap.get?_push_of_some _ e, turn_range _ lo (hi - lo).toNat, ?_, fun b hb => ?_, q⟩
  · have e1 : lo + ((0 : Nat) : Int) * 1 = lo := by simp
    have e2 : (((hi - lo).toNat : Nat) : Int) - ((0 : Nat) : Int) = Builtin.Range.rangeSize lo hi 1 := by rw [rangeSize_one]; split <;> omega
    show IsRangeIter _ _ (lo + ((0 : Nat) : Int) * 1) ((((hi - lo).toNat : Nat) : Int) - ((0 : Nat) : Int)) 1
    rw [e1, e2]
    exact Heap.get?_push_size _ rfl
  · have e : b = (s.heap.push { cls := .type "range", data := .fields #[.int lo t, .int hi u, .int 1 v] }).objs.size := by simpa using hb
    subst e
    exact I1.fpOk (Nat.le_refl _) (I1.hok.fresh (Nat.le_refl _))
def iRng1 (ta : TA) : TI := fun σ H R => ta σ H fun vs H1 => ∃ j : Int, vs = [.int j] ∧ -(2 ^ 62) ≤ j ∧ j < 2 ^ 62 ∧ R (Itr 0 j.toNat) H1
theorem pi_range1 {a : Expr} {ta : TA} {p pos : Pos} (hg : Gl X "range") (hm : X.mg "range" = none) (ha : PA X [a] ta) (hs : starEach [a] X.env = [(false, eval a X.env)] := by rfl) : PI X tg (.Call (.Name "range" p) [a] [] pos) (iRng1 ta) := by
  intro pins s σ H R I h
  refine Call_ (ld_blt I hg hm boot_range (PyProof.Rows.callWith_type1 (thn (ha pos pins s σ H _ I h) fun us s1 ⟨vs, H1, I1, r1, q1⟩ => ?_) hs rfl))
  obtain ⟨j, e, q1, q2, q⟩ := q1
  subst e
  cases r1 with
  | cons r rr =>
    cases rr
    obtain ⟨t, rfl⟩ := r
    exact call_range_1 (range_it I1 (by omega) (by omega) q1 q2 (by simpa using q))
/-- W: the invariant by the turn and a measure; N: what the body is to reach -/
def tFor (wi : TI) (g : TG) (tb : TS) : TS := fun D σ H => wi σ H fun J H1 => ∃ W : Nat → Nat → St → Hp → Prop, (∃ m, W 0 m σ H1) ∧ ∀ i m σ H, W i m σ H →
  (J.stop i H ∧ D.nx σ H) ∨ (J.go i H ∧ ∃ N : St → Hp → Prop, (∀ σ' H', N σ' H' → ∃ m', m' < m ∧ W (i + 1) m' σ' H') ∧ ∀ x H', J.yld i H x H' → g x σ H' fun σ2 H2 => tb { D with nx := N, ct := N, bk := D.nx } σ2 H2)
/-- the records at fp as they stand -/
def pinsAt (fp : List Addr) (h : Heap) : List (Addr × Obj) := fp.filterMap fun b => (h.get? b).map fun o => (b, o)
theorem mem_pinsAt {fp : List Addr} {h : Heap} {b : Addr} {o : Obj} (hb : b ∈ fp) (e : h.get? b = some o) : (b, o) ∈ pinsAt fp h := List.mem_filterMap.mpr ⟨b, hb, by rw [e]; rfl⟩
theorem of_pinsAt {fp : List Addr} {h : Heap} {p : Addr × Obj} (hp : p ∈ pinsAt fp h) : p.1 ∈ fp ∧ h.get? p.1 = some p.2 := by
  obtain ⟨b, hb, e⟩ := List.mem_filterMap.mp hp
  cases q : h.get? b with
  | none => rw [q] at e; cases e
  | some o =>
    rw [q] at e
    have e' : (b, o) = p := Option.some.inj e
    subst e'
    exact ⟨hb, q⟩
theorem Inv.pinned {pins : List (Addr × Obj)} {σ : St} {H : Hp} {s : Shared} {fp : List Addr} (I : Inv X pins σ H s) (hf : ∀ b ∈ fp, FpOk X pins H b) (ho : ∀ b ∈ fp, ∃ o, s.heap.get? b = some o ∧ ∀ v, o.data ≠ .cell v) : Inv X (pins ++ pinsAt fp s.heap) σ H s :=
  I.pins_of fun p hp => (List.mem_append.mp hp).elim (fun z => I.pin p (List.mem_append_right _ z)) fun z => by
    obtain ⟨hb, e⟩ := of_pinsAt z
    obtain ⟨f0, f1, f2, _⟩ := hf p.1 hb
    obtain ⟨o, e', d⟩ := ho p.1 hb
    rw [e] at e'; cases e'
    exact ⟨e, f0, f1, f2, d⟩
theorem Inv.unpinned {pins pl : List (Addr × Obj)} {σ : St} {H : Hp} {s : Shared} (I : Inv X (pins ++ pl) σ H s) : Inv X pins σ H s := I.pins_of fun p hp => I.pin p (List.mem_append_right _ (List.mem_append_left _ hp))
theorem ps_for {iter : Expr} {body : List Stmt} {wi : TI} {g : TG} {tb : TS} {pos : Pos} (hp : PassesOwn (model X.prog X.w) X.A X.env X.xe) (hc : X.calm = true) (hi : PI X tg iter wi) (hg : PG X tg g) (hb : PSs X body tb)
    (hs : ∀ x, foldedSetIterable iter X.env x = pure x := by intro _; rfl) : PS X (.For tg iter body [] pos) (tFor wi g tb) := by
  intro pins s σ H D I h
  refine wpAny_For (thn (hi pins s σ H _ I h) fun v s1 h1 => thn h1 fun itv s2 h2 => ?_) hs
  obtain ⟨it, fp, tn, J, H2, e, I2, T, st2, f2, W, ⟨m0, w0⟩, turn⟩ := h2
  subst e
  -- what stays true of the iterator's objects through the loop
  have stat : ∀ {H' : Hp}, (∀ b ∈ fp, H' b = none) → ∀ b ∈ fp, FpOk X pins H' b := fun hn b hb => ⟨hn b hb, (f2 b hb).2⟩
  refine codeAny_forLoop_any (fun n s' => ∃ i σ' H', Inv X pins σ' H' s' ∧ tn i s'.heap ∧ (∀ b ∈ fp, H' b = none) ∧ W i n σ' H') ?_ m0 ⟨0, σ, H2, I2, st2, fun b hb => (f2 b hb).1, w0⟩
  rintro n s3 ⟨i, σ3, H3, I3, st3, fr3, w3⟩
  rcases turn i n σ3 H3 w3 with ⟨stop, qn⟩ | ⟨go, N, hN, step⟩
  · refine wpAny_passesOwn hp (thn (T.done X rfl rfl rfl hc i pins s3 σ3 H3 X.xe I3 (stat fr3) st3 stop) fun r s4 ⟨hr, I4⟩ => ?_)
    subst hr
    exact wpAny_execs_nil ⟨σ3, H3, I4, qn⟩
  · refine wpAny_passesOwn hp (thn (T.item X rfl rfl rfl hc i pins s3 σ3 H3 X.xe I3 (stat fr3) st3 go) fun r s4 ⟨u, hr, h4⟩ => ?_)
    subst hr
    refine wpAny_passesOwn hp (thn h4 fun _ s5 ⟨x, H5, I5, r5, y5, st5, fr5⟩ => ?_)
    have I5' := I5.pinned (stat fr5) (T.obj _ _ st5)
    refine wpAny_passesOwn hp (thn (hg _ s5 σ3 H5 x u _ I5' r5 (step x H5 y5)) fun _ s6 ⟨σ6, H6, I6, q6⟩ => ?_)
    refine wpAny_passesOwn hp (thn (hb _ s6 σ6 H6 _ I6 q6) fun f s7 q7 => ?_)
    have again : ∀ {σ7 : St} {H7 : Hp}, Inv X (pins ++ pinsAt fp s5.heap) σ7 H7 s7 → N σ7 H7 → ∃ m, m < n ∧ ∃ i σ' H', Inv X pins σ' H' s7 ∧ tn i s7.heap ∧ (∀ b ∈ fp, H' b = none) ∧ W i m σ' H' := fun {σ7 H7} I7 n7 => by
      obtain ⟨m', hm, w7⟩ := hN σ7 H7 n7
      refine ⟨m', hm, i + 1, σ7, H7, I7.unpinned, T.keep _ _ _ st5 fun b hb o e => (I7.pin (b, o) (List.mem_append_right _ (List.mem_append_right _ (mem_pinsAt hb e)))).1, fun b hb => ?_, w7⟩
      obtain ⟨o, e, d⟩ := T.obj _ _ st5 b hb
      exact (I7.pin (b, o) (List.mem_append_right _ (List.mem_append_right _ (mem_pinsAt hb e)))).2.1
    cases f with
    | next => obtain ⟨σ7, H7, I7, n7⟩ := q7; exact again I7 n7
    | cont => obtain ⟨σ7, H7, I7, n7⟩ := q7; exact again I7 n7
    | brk => obtain ⟨σ7, H7, I7, q7⟩ := q7; exact ⟨σ7, H7, I7.unpinned, q7⟩
    | ret v => obtain ⟨x7, σ7, H7, I7, r7, q7⟩ := q7; exact ⟨x7, σ7, H7, I7.unpinned, r7, q7⟩
end
/-- over a list that the body leaves as it is -/
theorem for_list {K : PySem.W.Frag} {a : Addr} {xs : List V} {g : TG} {tb : TS} {D : Ends} {σ : St} {H : Hp} (Pv : Nat → St → Hp → Prop) (h0 : Pv 0 σ H) (hl : ∀ i σ H, i ≤ xs.length → Pv i σ H → SqL K H a xs)
    (hs : ∀ i x σ H, xs[i]? = some x → Pv i σ H → g x σ H fun σ2 H2 => tb { D with nx := Pv (i + 1), ct := Pv (i + 1), bk := D.nx } σ2 H2) (hd : ∀ σ H, Pv xs.length σ H → D.nx σ H) :
    ∃ W : Nat → Nat → St → Hp → Prop, (∃ m, W 0 m σ H) ∧ ∀ i m σ H, W i m σ H →
      ((Itl K a).stop i H ∧ D.nx σ H) ∨ ((Itl K a).go i H ∧ ∃ N : St → Hp → Prop, (∀ σ' H', N σ' H' → ∃ m', m' < m ∧ W (i + 1) m' σ' H') ∧ ∀ x H', (Itl K a).yld i H x H' → g x σ H' fun σ2 H2 => tb { D with nx := N, ct := N, bk := D.nx } σ2 H2) := by
  refine ⟨fun i m σ H => m = xs.length - i ∧ i ≤ xs.length ∧ Pv i σ H, ⟨xs.length, by simp, Nat.zero_le _, h0⟩, ?_⟩
  rintro i m σ H ⟨rfl, hi, p⟩
  have q := hl i σ H hi p
  by_cases hlt : i < xs.length
  · refine .inr ⟨⟨xs, xs[i], q, by simp [hlt]⟩, Pv (i + 1), fun σ' H' p' => ⟨xs.length - (i + 1), by omega, rfl, hlt, p'⟩, fun x H' y => ?_⟩
    obtain ⟨e, y⟩ := y
    subst e
    exact hs i x σ _ (y xs q) p
  · have e : i = xs.length := by omega
    subst e
    exact .inl ⟨⟨xs, q, Nat.le_refl _⟩, hd σ H p⟩
theorem for_range {lo : Int} {n : Nat} {g : TG} {tb : TS} {D : Ends} {σ : St} {H : Hp} (Pv : Nat → St → Hp → Prop) (h0 : Pv 0 σ H)
    (hs : ∀ i σ H, i < n → Pv i σ H → g (.int (lo + i)) σ H fun σ2 H2 => tb { D with nx := Pv (i + 1), ct := Pv (i + 1), bk := D.nx } σ2 H2) (hd : ∀ σ H, Pv n σ H → D.nx σ H) :
    ∃ W : Nat → Nat → St → Hp → Prop, (∃ m, W 0 m σ H) ∧ ∀ i m σ H, W i m σ H →
      ((Itr lo n).stop i H ∧ D.nx σ H) ∨ ((Itr lo n).go i H ∧ ∃ N : St → Hp → Prop, (∀ σ' H', N σ' H' → ∃ m', m' < m ∧ W (i + 1) m' σ' H') ∧ ∀ x H', (Itr lo n).yld i H x H' → g x σ H' fun σ2 H2 => tb { D with nx := N, ct := N, bk := D.nx } σ2 H2) := by
  refine ⟨fun i m σ H => m = n - i ∧ i ≤ n ∧ Pv i σ H, ⟨n, by simp, Nat.zero_le _, h0⟩, ?_⟩
  rintro i m σ H ⟨rfl, hi, p⟩
  by_cases hlt : i < n
  · refine .inr ⟨hlt, Pv (i + 1), fun σ' H' p' => ⟨n - (i + 1), by omega, rfl, hlt, p'⟩, fun x H' y => ?_⟩
    obtain ⟨e, y⟩ := y
    subst e y
    exact hs i σ _ hlt p
  · have e : i = n := by omega
    subst e
    exact .inl ⟨Nat.le_refl _, hd σ H p⟩
end L2
namespace L2
open PySem PySem.Spec PyProof.Rows
abbrev R2 := V → V → Hp → VK → Prop
/-- a two-place operation on values: f is binaryOp op, inplaceOp op or compareOp op -/
def OpR (X : Cx) (f : Value → Value → Sem Value) (r : R2) : Prop :=
  ∀ (pins : List (Addr × Obj)) (s : Shared) (σ : St) (H : Hp) (x y : V) (v u : Value) (Q : VK), Inv X pins σ H s → RelV x v → RelV y u → r x y H Q →
    wpAny (model X.prog X.w) X.A (f v u) (EP X pins σ Q) X.xe s
/-- a one-place operation -/
def UnR (X : Cx) (f : Value → Sem Value) (r : V → Hp → VK → Prop) : Prop :=
  ∀ (pins : List (Addr × Obj)) (s : Shared) (σ : St) (H : Hp) (x : V) (v : Value) (Q : VK), Inv X pins σ H s → RelV x v → r x H Q →
    wpAny (model X.prog X.w) X.A (f v) (EP X pins σ Q) X.xe s
/-- a call of a value that is known (a builtin, a type) with values -/
def CallR (X : Cx) (f : Value) (r : List V → Hp → VK → Prop) : Prop :=
  ∀ (pins : List (Addr × Obj)) (s : Shared) (σ : St) (H : Hp) (xs : List V) (us : List Value) (Q : VK), Inv X pins σ H s → Vals xs us → r xs H Q →
    wpAny (model X.prog X.w) X.A (call f us) (EP X pins σ Q) X.xe s
def tOp (r : R2) (ta tb : TE) : TE := fun σ H Q => ta σ H fun x H1 => tb σ H1 fun y H2 => r x y H2 Q
def tUn (r : V → Hp → VK → Prop) (ta : TE) : TE := fun σ H Q => ta σ H fun x H1 => r x H1 Q
/-- ints in, under C, and a value out -/
def rI (C : Int → Int → Prop) (g : Int → Int → V) : R2 := fun x y H Q => ∃ i j, x = .int i ∧ y = .int j ∧ C i j ∧ Q (g i j) H
def rI0 (g : Int → Int → V) : R2 := fun x y H Q => ∃ i j, x = .int i ∧ y = .int j ∧ Q (g i j) H
def rU (g : Int → V) : V → Hp → VK → Prop := fun x H Q => ∃ i, x = .int i ∧ Q (g i) H
section
variable {X : Cx} {a b c : Expr} {ta tb tc : TE} {pos : Pos}
theorem binT (ha : PE X a ta) (hb : PE X b tb) {pins : List (Addr × Obj)} {s : Shared} {σ : St} {H : Hp} {R : V → V → Hp → Prop} (I : Inv X pins σ H s)
    (h : ta σ H fun x H1 => tb σ H1 fun y H2 => R x y H2) {Q : Value → Shared → Prop} {f : Value → Value → Sem Value}
    (hf : ∀ v u s2 x y H2, Inv X pins σ H2 s2 → RelV x v → RelV y u → R x y H2 → wpAny (model X.prog X.w) X.A (f v u) Q X.xe s2) :
    wpAny (model X.prog X.w) X.A (eval a X.env) (fun v s₁ => wpAny (model X.prog X.w) X.A (eval b X.env) (fun u s₂ => wpAny (model X.prog X.w) X.A (f v u) Q X.xe s₂) X.xe s₁) X.xe s := by
  refine thn (ha pins s σ H _ I h) fun v s1 ⟨x, H1, I1, r1, q1⟩ => ?_
  refine thn (hb pins s1 σ H1 _ I1 q1) fun u s2 ⟨y, H2, I2, r2, q2⟩ => ?_
  exact hf v u s2 x y H2 I2 r1 r2 q2
theorem pe_op {op : Operator} {r : R2} (ho : OpR X (binaryOp op) r) (ha : PE X a ta) (hb : PE X b tb) : PE X (.BinOp a op b pos) (tOp r ta tb) := by
  intro pins s σ H Q I h
  exact wpAny_BinOp (binT ha hb I h fun v u s2 x y H2 I2 rx ry q => ho pins s2 σ H2 x y v u Q I2 rx ry q)
theorem pe_un {op : UnaryOp} {r : V → Hp → VK → Prop} (ho : UnR X (unaryOp op) r) (ha : PE X a ta) : PE X (.UnaryOp op a pos) (tUn r ta) := by
  intro pins s σ H Q I h
  exact UnaryOp_ (thn (ha pins s σ H _ I h) fun v s1 ⟨x, H1, I1, r1, q1⟩ => ho pins s1 σ H1 x v Q I1 r1 q1)
theorem opI {f : Value → Value → Sem Value} {C : Int → Int → Prop} {g : Int → Int → Int}
    (rule : ∀ (i j : Int) (t u : Tok) (s : Shared) (Q : Value → Shared → Prop) (E : Value → Shared → Prop), C i j → Q (.int (g i j) s.toks) { s with toks := s.toks + 1 } → wpAny (model X.prog X.w) X.A (f (.int i t) (.int j u)) Q E s) :
    OpR X f (rI C fun i j => .int (g i j)) := by
  intro pins s σ H x y v u Q I rx ry h
  obtain ⟨i, j, rfl, rfl, hc, q⟩ := h
  obtain ⟨t, rfl⟩ := rx
  obtain ⟨t', rfl⟩ := ry
  exact rule i j t t' s _ _ hc ⟨.int (g i j), H, I.tok _, ⟨_, rfl⟩, q⟩
theorem opI0 {f : Value → Value → Sem Value} {g : Int → Int → Int}
    (rule : ∀ (i j : Int) (t u : Tok) (s : Shared) (Q : Value → Shared → Prop) (E : Value → Shared → Prop), Q (.int (g i j) s.toks) { s with toks := s.toks + 1 } → wpAny (model X.prog X.w) X.A (f (.int i t) (.int j u)) Q E s) :
    OpR X f (rI0 fun i j => .int (g i j)) := by
  intro pins s σ H x y v u Q I rx ry h
  obtain ⟨i, j, rfl, rfl, q⟩ := h
  obtain ⟨t, rfl⟩ := rx
  obtain ⟨t', rfl⟩ := ry
  exact rule i j t t' s _ _ ⟨.int (g i j), H, I.tok _, ⟨_, rfl⟩, q⟩
theorem opB0 {f : Value → Value → Sem Value} {g : Int → Int → Bool}
    (rule : ∀ (i j : Int) (t u : Tok) (s : Shared) (Q : Value → Shared → Prop) (E : Value → Shared → Prop), Q (.bool (g i j)) s → wpAny (model X.prog X.w) X.A (f (.int i t) (.int j u)) Q E s) :
    OpR X f (rI0 fun i j => .bl (g i j)) := by
  intro pins s σ H x y v u Q I rx ry h
  obtain ⟨i, j, rfl, rfl, q⟩ := h
  obtain ⟨t, rfl⟩ := rx
  obtain ⟨t', rfl⟩ := ry
  exact rule i j t t' s _ _ ⟨.bl (g i j), H, I, rfl, q⟩
def CDiv (i j : Int) : Prop := 0 < j ∧ j < 1073741824
def CMul (i j : Int) : Prop := (-(2 ^ 64) < i ∧ i < 2 ^ 64) ∨ (-(2 ^ 64) < j ∧ j < 2 ^ 64)
theorem CMul.ok {i j : Int} (h : CMul i j) : IntMulOk i j := by
  rcases h with ⟨h1, h2⟩ | ⟨h1, h2⟩
  · exact .of_left (intBits_le_64 h1 h2)
  · exact .of_right (intBits_le_64 h1 h2)
theorem op_add : OpR X (binaryOp .Add) (rI0 fun i j => .int (i + j)) := opI0 fun _ _ _ _ _ _ _ q => add_int q
theorem op_sub : OpR X (binaryOp .Sub) (rI0 fun i j => .int (i - j)) := opI0 fun _ _ _ _ _ _ _ q => sub_int q
theorem op_mul : OpR X (binaryOp .Mult) (rI CMul fun i j => .int (i * j)) := opI fun _ _ _ _ _ _ _ hc q => mul_int q hc.ok
/-- // by a positive divisor -/
theorem op_fdiv : OpR X (binaryOp .FloorDiv) (rI CDiv fun i j => .int (i / j)) := opI fun i j _ _ _ _ _ hc q => by
  have h1 : (0 : Int) < j := hc.1
  have h2 : j < 1073741824 := hc.2
  exact floordiv_int (by omega) (by rw [Int.fdiv_eq_ediv_of_nonneg i (by omega)]; exact q) (.inl (PyProof.noPylong_small (by omega)))
/-- % by a positive divisor of any size -/
theorem op_mod : OpR X (binaryOp .Mod) (rI (fun _ j => 0 < j) fun i j => .int (i % j)) := opI fun i j _ _ _ _ _ hc q => by
  have h1 : (0 : Int) < j := hc
  exact mod_int' (by omega) (by rw [Int.fmod_eq_emod_of_nonneg i (by omega)]; exact q)
theorem unI {f : Value → Sem Value} {g : Int → Int}
    (rule : ∀ (i : Int) (t : Tok) (s : Shared) (Q : Value → Shared → Prop) (E : Value → Shared → Prop), Q (.int (g i) s.toks) { s with toks := s.toks + 1 } → wpAny (model X.prog X.w) X.A (f (.int i t)) Q E s) :
    UnR X f (rU fun i => .int (g i)) := by
  intro pins s σ H x v Q I rx h
  obtain ⟨i, rfl, q⟩ := h
  obtain ⟨t, rfl⟩ := rx
  exact rule i t s _ _ ⟨.int (g i), H, I.tok _, ⟨_, rfl⟩, q⟩
theorem un_neg : UnR X (unaryOp .USub) (rU fun i => .int (-i)) := unI fun _ _ _ _ _ q => neg_int q
end
/-- the scalars that == tells apart as data does -/
def scal : V → V → Bool
  | .non, .non => true | .non, .int _ => true | .int _, .non => true | .non, .bl _ => true | .bl _, .non => true | .non, .str _ => true | .str _, .non => true
  | .int _, .int _ => true | .bl _, .bl _ => true | .str _, .str _ => true | .byt _, .byt _ => true
  | .int _, .str _ => true | .str _, .int _ => true | .bl _, .str _ => true | .str _, .bl _ => true
  | _, _ => false
def rEq : R2 := fun x y H Q => scal x y = true ∧ Q (.bl (decide (x = y))) H
def rNe : R2 := fun x y H Q => scal x y = true ∧ Q (.bl (!decide (x = y))) H
theorem dec_int {i j : Int} : decide (V.int i = V.int j) = (i == j) := by
  rw [Bool.eq_iff_iff]
  simp
theorem dec_bl {i j : Bool} : decide (V.bl i = V.bl j) = (i == j) := by
  rw [Bool.eq_iff_iff]
  simp
theorem dec_str {i j : Str} : decide (V.str i = V.str j) = (i == j) := by
  rw [Bool.eq_iff_iff]
  simp
theorem dec_byt {i j : Array UInt8} : decide (V.byt i = V.byt j) = (i.toList == j.toList) := by
  rw [Bool.eq_iff_iff]
  cases i
  cases j
  simp
section
variable {X : Cx} {a b c : Expr} {ta tb tc : TE} {pos : Pos}
theorem fin_bl {pins : List (Addr × Obj)} {σ : St} {H : Hp} {s : Shared} {Q : VK} {k k' : Bool} (I : Inv X pins σ H s) (q : Q (.bl k) H) (e : k = k') : EP X pins σ Q (.bool k') s := by
  subst e
  exact ⟨.bl k, H, I, rfl, q⟩
theorem op_eq : OpR X (compareOp .Eq) rEq := by
  intro pins s σ H x y v u Q I rx ry h
  obtain ⟨hs, q⟩ := h
  cases x with
  | non =>
    cases rx
    cases y with
    | non => cases ry; exact PySem.EqNone.eq_none_none (fin_bl I q (by simp))
    | bl j => cases ry; exact PySem.EqNone.eq_none_bool (fin_bl I q (by simp))
    | int j => obtain ⟨t', rfl⟩ := ry; exact PySem.EqNone.eq_none_int (fin_bl I q (by simp))
    | str j => obtain ⟨t', rfl⟩ := ry; exact PySem.EqNone.eq_none_str (fin_bl I q (by simp))
    | _ => exact absurd (show false = true from hs) Bool.false_ne_true
  | bl i =>
    cases rx
    cases y with
    | non => cases ry; exact PySem.EqNone.eq_bool_none (fin_bl I q (by simp))
    | bl j => cases ry; exact eq_bool (fin_bl I q dec_bl)
    | str j => obtain ⟨t', rfl⟩ := ry; exact PySem.EqMixed.eq_bool_str (fin_bl I q (by simp))
    | _ => exact absurd (show false = true from hs) Bool.false_ne_true
  | int i =>
    obtain ⟨t, rfl⟩ := rx
    cases y with
    | non => cases ry; exact PySem.EqNone.eq_int_none (fin_bl I q (by simp))
    | int j => obtain ⟨t', rfl⟩ := ry; exact eq_int (fin_bl I q dec_int)
    | str j => obtain ⟨t', rfl⟩ := ry; exact PySem.EqMixed.eq_int_str (fin_bl I q (by simp))
    | _ => exact absurd (show false = true from hs) Bool.false_ne_true
  | str i =>
    obtain ⟨t, rfl⟩ := rx
    cases y with
    | non => cases ry; exact PySem.EqNone.eq_str_none (fin_bl I q (by simp))
    | bl j => cases ry; exact PySem.EqMixed.eq_str_bool (fin_bl I q (by simp))
    | int j => obtain ⟨t', rfl⟩ := ry; exact PySem.EqMixed.eq_str_int (fin_bl I q (by simp))
    | str j => obtain ⟨t', rfl⟩ := ry; exact eq_str (fin_bl I q dec_str)
    | _ => exact absurd (show false = true from hs) Bool.false_ne_true
  | byt i =>
    obtain ⟨t, rfl⟩ := rx
    cases y with
    | byt j => obtain ⟨t', rfl⟩ := ry; exact PySem.W.eq_bytes (fin_bl I q dec_byt)
    | _ => exact absurd (show false = true from hs) Bool.false_ne_true
  | _ => cases y <;> exact absurd (show false = true from hs) Bool.false_ne_true
theorem op_ne : OpR X (compareOp .NotEq) rNe := by
  intro pins s σ H x y v u Q I rx ry h
  obtain ⟨hs, q⟩ := h
  cases x with
  | non =>
    cases rx
    cases y with
    | non => cases ry; exact PySem.EqNone.ne_none_none (fin_bl I q (by simp))
    | bl j => cases ry; exact PySem.EqNone.ne_none_bool (fin_bl I q (by simp))
    | int j => obtain ⟨t', rfl⟩ := ry; exact PySem.EqNone.ne_none_int (fin_bl I q (by simp))
    | str j => obtain ⟨t', rfl⟩ := ry; exact PySem.EqNone.ne_none_str (fin_bl I q (by simp))
    | _ => exact absurd (show false = true from hs) Bool.false_ne_true
  | bl i =>
    cases rx
    cases y with
    | non => cases ry; exact PySem.EqNone.ne_bool_none (fin_bl I q (by simp))
    | bl j => cases ry; exact ne_bool (fin_bl I q (congrArg not dec_bl))
    | str j => obtain ⟨t', rfl⟩ := ry; exact PySem.EqMixed.ne_bool_str (fin_bl I q (by simp))
    | _ => exact absurd (show false = true from hs) Bool.false_ne_true
  | int i =>
    obtain ⟨t, rfl⟩ := rx
    cases y with
    | non => cases ry; exact PySem.EqNone.ne_int_none (fin_bl I q (by simp))
    | int j => obtain ⟨t', rfl⟩ := ry; exact ne_int (fin_bl I q (congrArg not dec_int))
    | str j => obtain ⟨t', rfl⟩ := ry; exact PySem.EqMixed.ne_int_str (fin_bl I q (by simp))
    | _ => exact absurd (show false = true from hs) Bool.false_ne_true
  | str i =>
    obtain ⟨t, rfl⟩ := rx
    cases y with
    | non => cases ry; exact PySem.EqNone.ne_str_none (fin_bl I q (by simp))
    | bl j => cases ry; exact PySem.EqMixed.ne_str_bool (fin_bl I q (by simp))
    | int j => obtain ⟨t', rfl⟩ := ry; exact PySem.EqMixed.ne_str_int (fin_bl I q (by simp))
    | str j => obtain ⟨t', rfl⟩ := ry; exact ne_str (fin_bl I q (congrArg not dec_str))
    | _ => exact absurd (show false = true from hs) Bool.false_ne_true
  | byt i =>
    obtain ⟨t, rfl⟩ := rx
    cases y with
    | byt j => obtain ⟨t', rfl⟩ := ry; exact PySem.W.ne_bytes (fin_bl I q (congrArg not dec_byt))
    | _ => exact absurd (show false = true from hs) Bool.false_ne_true
  | _ => cases y <;> exact absurd (show false = true from hs) Bool.false_ne_true
theorem op_lt : OpR X (compareOp .Lt) (rI0 fun i j => .bl (decide (i < j))) := opB0 fun _ _ _ _ _ _ _ q => lt_int q
theorem op_gt : OpR X (compareOp .Gt) (rI0 fun i j => .bl (decide (j < i))) := opB0 fun _ _ _ _ _ _ _ q => gt_int q
theorem op_ge : OpR X (compareOp .GtE) (rI0 fun i j => .bl (decide (j ≤ i))) := opB0 fun _ _ _ _ _ _ _ q => ge_int q
/-- the one string within the other -/
theorem op_in_str : OpR X (compareOp .In) (fun x y H Q => ∃ i j, x = .str i ∧ y = .str j ∧ Q (.bl (!(Builtin.Str.occurrences j i 0 j.length 1).isEmpty)) H) := by
  intro pins s σ H x y v u Q I rx ry h
  obtain ⟨i, j, rfl, rfl, q⟩ := h
  obtain ⟨t, rfl⟩ := rx
  obtain ⟨t', rfl⟩ := ry
  exact in_str (fin_bl I q rfl)
/-- is None, is not None: the right side a value none -/
theorem op_isN : OpR X (compareOp .Is) (fun x y H Q => y = .non ∧ Q (.bl (decide (x = .non))) H) := by
  intro pins s σ H x y v u Q I rx ry h
  obtain ⟨rfl, q⟩ := h
  cases ry
  refine is_none_gen (fin_bl I q ?_)
  cases x <;> first
    | (cases rx; rfl)
    | (obtain ⟨t, rfl⟩ := rx; rfl)
theorem op_notN : OpR X (compareOp .IsNot) (fun x y H Q => y = .non ∧ Q (.bl (!decide (x = .non))) H) := by
  intro pins s σ H x y v u Q I rx ry h
  obtain ⟨rfl, q⟩ := h
  cases ry
  refine isnot_none_gen (fin_bl I q ?_)
  cases x <;> first
    | (cases rx; rfl)
    | (obtain ⟨t, rfl⟩ := rx; rfl)
theorem nomark (b : Expr) {op : CmpOp} (h : op ≠ .In := by decide) (h2 : op ≠ .NotIn := by decide) : behindInMarks op b = false := by
  have e1 : (op == CmpOp.In) = false := by cases op <;> first | rfl | exact absurd rfl h
  have e2 : (op == CmpOp.NotIn) = false := by cases op <;> first | rfl | exact absurd rfl h2
  cases b <;> simp [behindInMarks, e1, e2]
/-- a comparison as a value; hm: nomark b, or (for in, not in) by with_unfolding_all rfl -/
theorem pe_cmpR {op : CmpOp} {r : R2} (ho : OpR X (compareOp op) r) (ha : PE X a ta) (hb : PE X b tb) (hm : behindInMarks op b = false) : PE X (.Compare a [op] [b] pos) (tOp r ta tb) := by
  intro pins s σ H Q I h
  exact wpAny_Compare1 (binT ha hb I h fun v u s2 x y H2 I2 rx ry q => ho pins s2 σ H2 x y v u Q I2 rx ry q) hm
/-- a reading of a value as a test -/
def tTest (t : TE) : TT := fun σ H Q => t σ H fun x H' => ∃ k, x = .bl k ∧ Q k H'
theorem pt_cmpR {op : CmpOp} {r : R2} (ho : OpR X (compareOp op) r) (ha : PE X a ta) (hb : PE X b tb) (hm : behindInMarks op b = false) : PT X (.Compare a [op] [b] pos) (tTest (tOp r ta tb)) := by
  intro pins s σ H Q I h
  refine wpAny_isTrue_Compare1 (thn (ha pins s σ H _ I h) fun v s1 ⟨x, H1, I1, r1, q1⟩ => thn (hb pins s1 σ H1 _ I1 q1) fun u s2 ⟨y, H2, I2, r2, q2⟩ =>
    thn (ho pins s2 σ H2 x y v u _ I2 r1 r2 q2) fun c s3 ⟨z, H3, I3, r3, k, e, q3⟩ => ?_) hm
  subst e
  cases r3
  exact wpAny_truthy_bool ⟨H3, I3, q3⟩
theorem line63 : (sizeLine : Nat) < 2 ^ 63 := by rw [sizeLine_eq]; decide
theorem op_add_str : OpR X (binaryOp .Add) (fun x y H Q => ∃ i j, x = .str i ∧ y = .str j ∧ i.length + j.length ≤ sizeLine ∧ Q (.str (i ++ j)) H) := by
  intro pins s σ H x y v u Q I rx ry h
  obtain ⟨i, j, rfl, rfl, hz, q⟩ := h
  obtain ⟨t, rfl⟩ := rx
  obtain ⟨t', rfl⟩ := ry
  exact add_str (fun t' tk => ⟨.str (i ++ j), H, I.tok _, ⟨_, rfl⟩, q⟩) hz
theorem vals1 {x : V} {us : List Value} (r : Vals [x] us) : ∃ u, us = [u] ∧ RelV x u := by
  cases r with
  | cons r1 r2 => cases r2; exact ⟨_, rfl, r1⟩
theorem vals2 {x y : V} {us : List Value} (r : Vals [x, y] us) : ∃ u w', us = [u, w'] ∧ RelV x u ∧ RelV y w' := by
  cases r with
  | cons r1 r2 =>
    cases r2 with
    | cons r3 r4 => cases r4; exact ⟨_, _, rfl, r1, r3⟩
theorem call_min2 (hc : X.calm = true) : CallR X (.builtin "min") (fun xs H Q => ∃ i j, xs = [.int i, .int j] ∧ Q (.int (if j < i then j else i)) H) := by
  intro pins s σ H xs us Q I r h
  obtain ⟨i, j, rfl, q⟩ := h
  obtain ⟨u, w', rfl, ⟨t, rfl⟩, ⟨t', rfl⟩⟩ := vals2 r
  refine min_two_ints (I.ok.hd hc) fun h' tk k => ⟨_, H, I.kept k, ?_, q⟩
  by_cases hj : j < i
  · rw [if_pos hj, if_pos hj]; exact ⟨_, rfl⟩
  · rw [if_neg hj, if_neg hj]; exact ⟨_, rfl⟩
theorem call_str_int : CallR X (.type "str") (fun xs H Q => ∃ i, xs = [.int i] ∧ i.natAbs.log2 < 1920 ∧ Q (.str (toString i)) H) := by
  intro pins s σ H xs us Q I r h
  obtain ⟨i, rfl, hz, q⟩ := h
  obtain ⟨u, rfl, t, rfl⟩ := vals1 r
  exact PySem.P.str_of_int hz ⟨.str _, H, I.tok _, ⟨_, rfl⟩, q⟩
end
end L2
namespace L2
open PySem PySem.Spec PyProof.Rows
structure ObjM (h : Heap) (x dx C : Addr) (mA : Str → Option Value) : Prop where
  obj : h.get? x = some (PySem.W.instObj C dx)
  ns : h.Ns1 dx mA
  ne : dx ≠ x
theorem lookIn_ns {h : Heap} {dx : Addr} {mA : Str → Option Value} (n : h.Ns1 dx mA) : ∃ od, h.get? dx = some od ∧ ∀ name, PySem.W.lookIn name od = some (mA name) := by
  obtain ⟨o, es, ep, ho, hd, hk, _, hm⟩ := n
  refine ⟨o, ho, fun name => ?_⟩
  have e := hm name
  unfold nsFind findBy at e
  rw [← Array.find?_toList] at e
  unfold PySem.W.lookIn
  rw [hd]
  dsimp only
  split
  · rename_i y q
    rw [q] at e
    exact congrArg some e
  · rename_i q
    rw [q] at e
    have a : es.toList.any (·.refKey) = false := by
      rw [List.any_eq_false]
      intro y hy
      obtain ⟨z, t, hkey⟩ := hk y (Array.mem_toList_iff.mp hy)
      simp [DictEntry.refKey, hkey]
    have a' : ¬ es.toList.any (·.refKey) = true := by rw [a]; exact Bool.false_ne_true
    rw [if_neg a']
    exact congrArg some e
theorem ObjM.look {h : Heap} {x dx C : Addr} {mA : Str → Option Value} (I : ObjM h x dx C mA) : ∃ od, PySem.W.InstAt h x (PySem.W.instObj C dx) C (some od) ∧ ∀ name, PySem.W.lookIn name od = some (mA name) :=
  let ⟨od, ho, hl⟩ := lookIn_ns I.ns
  ⟨od, ⟨I.obj, rfl, rfl, ho⟩, hl⟩
section
variable {prog : Program} {w : World} {A : Around} {E : Value → Shared → Prop} {s : Shared} {K : PySem.W.Frag} {x dx C f : Addr} {mA : Str → Option Value} {name : Str} {v : Value}
theorem get_map {expr : Bool} {Q : Value → Shared → Prop} (X : K.In s.heap) (I : ObjM s.heap x dx C mA) (hg : PySem.W.plainGet K C name = true) (hh : PySem.W.hasDictIn K C = true)
    (ha : PySem.W.findIn K (.ref C) name = some none) (hv : mA name = some v) (hv' : PySem.W.handedIn v = true) (h : Q v { s with toks := s.toks + 1 }) :
    wpAny (model prog w) A (getAttr (.ref x) name expr) Q E s := by
  obtain ⟨od, J, hl⟩ := I.look
  exact PySem.W.get_value X J (PySem.W.plainGet_of hg).1 (PySem.W.findObj_own hh ha rfl (by rw [hl, hv])) hv' h
theorem get_meth {pl : Sem Bool} {Q : Value × List Value → Shared → Prop} (X : K.In s.heap) (I : ObjM s.heap x dx C mA) (hg : PySem.W.plainGet K C name = true)
    (hf : PySem.W.findIn K (.ref C) name = some (some (.ref f))) (ht : PySem.W.isFn K (.ref f) = true) (hv : mA name = none) (h : Q (.ref f, [.ref x]) s) :
    wpAny (model prog w) A (getMethod (.ref x) name pl) Q E s := by
  obtain ⟨od, J, hl⟩ := I.look
  exact PySem.W.method_fn X J (PySem.W.plainGet_of hg).1 (PySem.W.plainGet_of hg).2 hf (beq_iff_eq.mp ht) (by show (PySem.W.lookIn name od).map (·.isSome) = some false; rw [hl, hv]; rfl) h
theorem set_map {ns : List Str} {Q : Unit → Shared → Prop} (X : K.In s.heap) (I : ObjM s.heap x dx C mA)
    (hs : PySem.W.findIn K (.ref C) "__setattr__" = some (some (.builtin "object.__setattr__"))) (hp : PySem.W.plainOver K C = true) (ht : PySem.W.takerIn K C name = some none) (hh : PySem.W.hasDictIn K C = true)
    (hw : PySem.Within mA ns) (hsz : ns.length ≤ sizeLine)
    (h : ∀ h', ObjM h' x dx C (fun y => if y = name then some v else mA y) → Heap.SameBut dx s.heap h' → Q () { s with heap := h', toks := s.toks + 2 }) :
    wpAny (model prog w) A (setAttr (.ref x) name v) Q E s := by
  obtain ⟨od, J, hl⟩ := I.look
  refine PySem.W.set_plain X J hs (PySem.W.osa_open (s := { s with toks := s.toks + 1 }) (r := none) X J hp ht fun b => ?_)
  obtain ⟨cd, hc, hd'⟩ := PySem.W.any_some hh
  have hx : s.heap.get? x = some ⟨.ref C, some dx, .plain, #[]⟩ := I.obj
  refine wpAny_bind (wpAny_pure (wpAny_bind (wpAny_bind (wpAny_loadPart hx (wpAny_bind (PySem.W.Looks.here (s := { s with toks := s.toks + 1 }) (PySem.W.looks_clsIn X hc) ?_))))))
  rw [hd']
  refine wpAny_pure (a := some dx) (wpAny_bind (wpAny_pure (wpAny_bind ?_)))
  refine wpAny_nsSet1 (s := { s with toks := s.toks + 1 }) I.ns fun h' hn2 hs2 => ?_
  obtain ⟨oD, esD, epD, hoD, hdD, hcD⟩ := hn2.count (PySem.Within.cons name v hw)
  refine wpAny_bind (wpAny_lookBehind hoD (by rw [hdD]; exact pastItsLine_dict (Nat.le_trans hcD (by rw [List.length_cons]; omega))) ?_)
  exact wpAny_pure (h _ ⟨(hs2.2 _ (Ne.symm I.ne)).trans I.obj, hn2, I.ne⟩ hs2)
/-- C(..): the dict at the heap's end, the instance behind it; then its __init__ -/
theorem make_map {R : Result → Shared → Prop} {vs : List Value} {kw : List (Str × Value)} (X : K.In s.heap) (hm : PySem.W.makesIn K C = true)
    (hi : PySem.W.findIn K (.ref C) "__init__" = some (some (.ref f))) (hf : PySem.W.typeIn K (.ref f) = some (.type "function"))
    (h : codeAny (model prog w) (A.under (.builtin "type.__call__" ⟨.ref C :: vs, kw⟩)) (.call (.ref f) ⟨.ref (s.heap.objs.size + 1) :: vs, kw⟩) (PySem.W.InitBack (s.heap.objs.size + 1) R)
      { s with heap := (s.heap.push PySem.W.emptyDict).push (PySem.W.instObj C s.heap.objs.size) }) :
    codeAny (model prog w) A (.call (.ref C) ⟨vs, kw⟩) R s := by
  obtain ⟨hh, g, d, t, os⟩ := s
  exact PySem.W.make_core (PySem.W.makes_of X hm) (PySem.W.looks_findIn X hi) (fun self => PySem.W.bind_fn X self hf) (.inl rfl) h
end
def putF (f : Str) (v : V) : List (Str × V) → List (Str × V)
  | [] => [(f, v)]
  | (g, x) :: r => if g = f then (g, v) :: r else (g, x) :: putF f v r
theorem lookup_putF (f g : Str) (v : V) : ∀ fs : List (Str × V), (putF f v fs).lookup g = if g = f then some v else fs.lookup g
  | [] => by
    show List.lookup g [(f, v)] = _
    by_cases h : g = f
    · have hb : (g == f) = true := beq_iff_eq.mpr h
      simp only [List.lookup, hb, if_pos h]
    · have hb : (g == f) = false := beq_eq_false_iff_ne.mpr h
      simp only [List.lookup, hb, if_neg h]
  | (k, x) :: r => by
    have ih := lookup_putF f g v r
    rw [show putF f v ((k, x) :: r) = (if k = f then (k, v) :: r else (k, x) :: putF f v r) from rfl]
    by_cases hk : k = f
    · rw [if_pos hk]
      by_cases h : g = k
      · have hb : (g == k) = true := beq_iff_eq.mpr h
        simp only [List.lookup, hb, if_pos (h.trans hk)]
      · have hb : (g == k) = false := beq_eq_false_iff_ne.mpr h
        simp only [List.lookup, hb, if_neg (fun e : g = f => h (e.trans hk.symm))]
    · rw [if_neg hk]
      by_cases h : g = k
      · have hb : (g == k) = true := beq_iff_eq.mpr h
        simp only [List.lookup, hb, if_neg (fun e : g = f => hk (h.symm.trans e))]
      · have hb : (g == k) = false := beq_eq_false_iff_ne.mpr h
        simp only [List.lookup, hb]
        exact ih
theorem keys_putF (f : Str) (v : V) : ∀ fs : List (Str × V), f ∈ (putF f v fs).map (·.1) ∧ ∀ g, g ∈ fs.map (·.1) → g ∈ (putF f v fs).map (·.1)
  | [] => ⟨by simp [putF], fun g h => by simp at h⟩
  | (k, x) :: r => by
    obtain ⟨i1, i2⟩ := keys_putF f v r
    rw [show putF f v ((k, x) :: r) = (if k = f then (k, v) :: r else (k, x) :: putF f v r) from rfl]
    by_cases hk : k = f
    · rw [if_pos hk]
      subst hk
      exact ⟨by simp, fun g h => by simpa using h⟩
    · rw [if_neg hk]
      refine ⟨?_, fun g h => ?_⟩
      · rw [List.map_cons]
        exact List.mem_cons_of_mem _ i1
      · rw [List.map_cons] at h ⊢
        rcases List.mem_cons.mp h with e | e
        · exact List.mem_cons.mpr (.inl e)
        · exact List.mem_cons_of_mem _ (i2 g e)
theorem length_putF (f : Str) (v : V) : ∀ fs : List (Str × V), (putF f v fs).length ≤ fs.length + 1
  | [] => by simp [putF]
  | (k, x) :: r => by
    have ih := length_putF f v r
    rw [show putF f v ((k, x) :: r) = (if k = f then (k, v) :: r else (k, x) :: putF f v r) from rfl]
    by_cases hk : k = f
    · rw [if_pos hk, List.length_cons, List.length_cons]; omega
    · rw [if_neg hk, List.length_cons, List.length_cons]; omega
theorem RelO.some_of {v : V} {o : Option Value} (r : RelO (some v) o) : ∃ u, o = some u ∧ RelV v u := by
  cases o with
  | none => exact (show False from r).elim
  | some u => exact ⟨u, rfl, r⟩
theorem RelO.none_of {o : Option Value} (r : RelO none o) : o = none := by
  cases o with
  | none => rfl
  | some u => exact (show False from r).elim
theorem handed_of {v : V} {u : Value} (r : RelV v u) : PySem.W.handedIn u = true := by
  cases v with
  | non => cases (show u = Value.none from r); rfl
  | bl b => cases (show u = Value.bool b from r); rfl
  | int i => obtain ⟨t, e⟩ := (show ∃ t, u = Value.int i t from r); cases e; rfl
  | str x => obtain ⟨t, e⟩ := (show ∃ t, u = Value.str x t from r); cases e; rfl
  | byt b => obtain ⟨t, e⟩ := (show ∃ t, u = Value.bytes b t from r); cases e; rfl
  | flt b => obtain ⟨t, e⟩ := (show ∃ t, u = Value.float b t from r); cases e; rfl
  | ref a => cases (show u = Value.ref a from r); rfl
  | ty n => cases (show u = Value.type n from r); rfl
section
variable {P : Program} {w : World} {H H' : Hp} {h h' : Heap} {a C dx : Addr} {fs fs' : List (Str × V)}
theorem ins_get (hok : HOk P w H h) (e : H a = some (.ins C dx fs)) : ∃ mA, ObjM h a dx C mA ∧ (∀ f, RelO (fs.lookup f) (mA f)) ∧ PySem.Within mA (fs.map (·.1)) ∧ fs.length ≤ 1000 ∧ H dx = some (.own a) := by
  obtain ⟨d, z, ne, ob, mA, n, r, q⟩ := (show ObjOk P w H h a (.ins C dx fs) from hok a _ e)
  exact ⟨mA, ⟨ob, n, ne⟩, r, q, z, d⟩
end
structure Cls (K : PySem.W.Frag) (C : Addr) : Prop where
  pg : PySem.W.plainGet K C Str.empty = true
  hd : PySem.W.hasDictIn K C = true
  po : PySem.W.plainOver K C = true
  sa : PySem.W.findIn K (.ref C) "__setattr__" = some (some (.builtin "object.__setattr__"))
theorem Cls.get {K : PySem.W.Frag} {C : Addr} (c : Cls K C) (f : Str) : PySem.W.plainGet K C f = true := c.pg
/-- no class of it has the name -/
def NoAttr (K : PySem.W.Frag) (C : Addr) (f : Str) : Prop := PySem.W.findIn K (.ref C) f = some none
theorem NoAttr.taker {K : PySem.W.Frag} {C : Addr} {f : Str} (n : NoAttr K C f) : PySem.W.takerIn K C f = some none := by
  unfold PySem.W.takerIn
  rw [show PySem.W.findIn K (.ref C) f = some none from n]
  rfl
/-- a method: a plain def of the class or of one above it -/
structure Meth (K : PySem.W.Frag) (C : Addr) (m : Str) (f : Addr) : Prop where
  at_ : PySem.W.findIn K (.ref C) m = some (some (.ref f))
  fn : PySem.W.isFn K (.ref f) = true
  kp : PySem.W.keepIn K (.ref f) = true
section
variable {X : Cx} {pins : List (Addr × Obj)} {σ : St} {H : Hp} {s : Shared} {a C dx : Addr} {fs : List (Str × V)} {f : Str} {v : V} {A : Around} {E : Value → Shared → Prop}
theorem getattr_ok {b : Bool} {Q : Value → Shared → Prop} (I : Inv X pins σ H s) (e : H a = some (.ins C dx fs)) (c : Cls X.K C) (n : NoAttr X.K C f) (l : fs.lookup f = some v)
    (h : ∀ u s', Inv X pins σ H s' → RelV v u → Q u s') : wpAny (model X.prog X.w) A (getAttr (.ref a) f b) Q E s := by
  obtain ⟨mA, O, r, _, _, _⟩ := ins_get I.hok e
  obtain ⟨u, hu, ru⟩ := RelO.some_of (v := v) (o := mA f) (by rw [← l]; exact r f)
  exact get_map I.kIn O (c.get f) c.hd n hu (handed_of ru) (h u _ (I.tok _) ru)
theorem getmeth_ok {m : Str} {g : Addr} {pl : Sem Bool} {Q : Value × List Value → Shared → Prop} (I : Inv X pins σ H s) (e : H a = some (.ins C dx fs)) (c : Cls X.K C) (k : Meth X.K C m g) (l : fs.lookup m = none)
    (h : Q (.ref g, [.ref a]) s) : wpAny (model X.prog X.w) A (getMethod (.ref a) m pl) Q E s := by
  obtain ⟨mA, O, r, _, _, _⟩ := ins_get I.hok e
  have hn : mA m = none := RelO.none_of (by rw [← l]; exact r m)
  exact get_meth I.kIn O (c.get m) k.at_ k.fn hn h
theorem setattr_ok {y : V} {u : Value} {Q : Unit → Shared → Prop} (I : Inv X pins σ H s) (e : H a = some (.ins C dx fs)) (c : Cls X.K C) (n : NoAttr X.K C f) (hl : fs.length < 1000) (ry : RelV y u)
    (h : ∀ s', Inv X pins σ (upd H a (.ins C dx (putF f y fs))) s' → Q () s') : wpAny (model X.prog X.w) A (setAttr (.ref a) f u) Q E s := by
  obtain ⟨mA, O, r, wi, _, ho⟩ := ins_get I.hok e
  have hz : (fs.map (·.1)).length ≤ sizeLine := by rw [List.length_map, sizeLine_eq]; omega
  refine set_map I.kIn O c.sa c.po n.taker c.hd wi hz fun h' O' sb => h _ ?_
  have hd : ∃ o, h'.get? dx = some o := let ⟨o, _, _, e', _⟩ := O'.ns; ⟨o, e'⟩
  refine I.write (x := a) (e := dx) (by rw [e]; exact True.intro) (.inr ho) (fun b q hb z => (sb.2 b hb).trans z) hd ?_
  refine ⟨by rw [upd_ne O.ne]; exact ho, ?_, O.ne, O'.obj, _, O'.ns, fun g => ?_, fun g hg => ?_⟩
  · have := length_putF f y fs; omega
  · show RelO ((putF f y fs).lookup g) (if g = f then some u else mA g)
    rw [lookup_putF]
    by_cases q : g = f
    · rw [if_pos q, if_pos q]; exact ry
    · rw [if_neg q, if_neg q]; exact r g
  · by_cases q : g = f
    · rw [q]; exact (keys_putF f y fs).1
    · refine (keys_putF f y fs).2 g (wi g fun z => hg ?_)
      show (if g = f then some u else mA g) = none
      rw [if_neg q]; exact z
/-- a new instance, tracked, without attributes -/
theorem Inv.made (I : Inv X pins σ H s) : Inv X pins σ (upd (upd H s.heap.objs.size (.own (s.heap.objs.size + 1))) (s.heap.objs.size + 1) (.ins C s.heap.objs.size []))
    { s with heap := (s.heap.push PySem.W.emptyDict).push (PySem.W.instObj C s.heap.objs.size) } := by
  have e1 : (s.heap.push PySem.W.emptyDict).get? s.heap.objs.size = some PySem.W.emptyDict := Heap.get?_push_size s.heap rfl
  have e2 : ((s.heap.push PySem.W.emptyDict).push (PySem.W.instObj C s.heap.objs.size)).get? (s.heap.objs.size + 1) = some (PySem.W.instObj C s.heap.objs.size) := by
    have := Heap.get?_push_size (s.heap.push PySem.W.emptyDict) (o := PySem.W.instObj C s.heap.objs.size) rfl
    rwa [Heap.size_push] at this
  have e3 : (s.heap.push PySem.W.emptyDict).Ns s.heap.objs.size (fun _ => none) := ⟨PySem.W.emptyDict, #[], _, e1, rfl, (fun e he => absurd he (by simp)), fun _ => rfl⟩
  have I1 := I.laid (a := s.heap.objs.size) (o := .own (s.heap.objs.size + 1)) (h' := s.heap.push PySem.W.emptyDict) (t' := s.toks) (fun b u q => Heap.get?_push_of_some _ q) (Nat.le_refl _) ⟨_, e1⟩
  refine I1.laid (a := s.heap.objs.size + 1) (o := .ins C s.heap.objs.size []) (t' := s.toks) (fun b u q => Heap.get?_push_of_some _ q) (Nat.le_of_eq (Heap.size_push _ _)) ?_
  have ne : s.heap.objs.size ≠ s.heap.objs.size + 1 := Nat.ne_of_lt (Nat.lt_succ_self _)
  refine ⟨by rw [upd_ne ne, upd_same], Nat.zero_le _, ne, e2, fun _ => none, (Heap.Ns1.of_empty e3).at fun o q => Heap.get?_push_of_some _ q, fun _ => True.intro, fun y hy => absurd rfl hy⟩
/-- e.f where nothing but the object is asked: through attributeBase (super) and the last hold -/
theorem attr_of {prog : Program} {w : World} {env : Env} {e : Expr} {f : Str} {pos : Pos} {s : Shared} {Q : Value → Shared → Prop} (hb : attributeBase e f env (eval e env) = eval e env)
    (h : wpAny (model prog w) A (eval e env) (fun o s₁ => wpAny (model prog w) A (getAttr o f true) Q E s₁) E s) : wpAny (model prog w) A (eval (.Attribute e f pos) env) Q E s :=
  Attribute_any_ h (by rw [arm_eval_Attribute, hb])
end
/-- e.f, an attribute of the instance -/
def tFld (K : PySem.W.Frag) (ta : TE) (f : Str) : TE := fun σ H Q => ta σ H fun x H1 => ∃ a C dx fs v, x = .ref a ∧ H1 a = some (.ins C dx fs) ∧ Cls K C ∧ NoAttr K C f ∧ fs.lookup f = some v ∧ Q v H1
/-- e.f = value -/
def sFld (K : PySem.W.Frag) (ta tv : TE) (f : Str) : TS := fun D σ H => tv σ H fun y H1 => ta σ H1 fun x H2 => ∃ a C dx fs, x = .ref a ∧ H2 a = some (.ins C dx fs) ∧ Cls K C ∧ NoAttr K C f ∧ fs.length < 1000 ∧
  D.nx σ (upd H2 a (.ins C dx (putF f y fs)))
section
variable {X : Cx} {o e value : Expr} {f : Str} {pos pos' tpos : Pos} {ta tv : TE}
theorem pe_fld (he : PE X e ta) (hb : attributeBase e f X.env (eval e X.env) = eval e X.env) : PE X (.Attribute e f pos) (tFld X.K ta f) := by
  intro pins s σ H Q I h
  refine attr_of hb (thn (he pins s σ H _ I h) fun u s1 ⟨x, H1, I1, rx, a, C, dx, fs, v, ex, ea, c, n, l, q⟩ => ?_)
  subst ex
  obtain rfl : u = Value.ref a := rx
  exact getattr_ok I1 ea c n l fun u' s2 I2 ru => ⟨v, H1, I2, ru, q⟩
theorem ps_fld (ha : PE X o ta) (hv : PE X value tv) (hs : swapsWith value (some (.Attribute o f pos')) pos.line X.env = pure false) : PS X (.Assign [.Attribute o f pos'] value pos) (sFld X.K ta tv f) := by
  intro pins s σ H D I h
  refine plainObj_wpAny_Assign_Attribute (thn (hv pins s σ H _ I h) fun u s1 ⟨y, H1, I1, ry, q⟩ => thn (ha pins s1 σ H1 _ I1 q) fun ov s2 ⟨x, H2, I2, rx, a, C, dx, fs, ex, ea, c, n, l, q2⟩ => ?_) hs
  subst ex
  obtain rfl : ov = Value.ref a := rx
  exact setattr_ok I2 ea c n l ry fun s3 I3 => ⟨σ, _, I3, q2⟩
end
section
variable {X : Cx} {pins : List (Addr × Obj)} {σ : St} {H : Hp} {s : Shared} {A : Around} {E : Value → Shared → Prop} {Q : Value → Shared → Prop} {c : Value} {b : Bool}
/-- the type of a value, as the fragment's deciders take it; for an instance its class -/
inductive TyOf (K : PySem.W.Frag) (H : Hp) : V → Value → Prop where
  | non : TyOf K H .non (.type "NoneType")
  | bl (x : Bool) : TyOf K H (.bl x) (.type "bool")
  | int (i : Int) : TyOf K H (.int i) (.type "int")
  | str (x : Str) : TyOf K H (.str x) (.type "str")
  | flt (x : UInt64) : TyOf K H (.flt x) (.type "float")
  | lst {a : Addr} {xs : List V} (e : H a = some (.lst xs)) : TyOf K H (.ref a) (.type "list")
  | frz {a : Addr} {o : Obj} {xs : List V} (e : H a = some (.frz o (.lst xs))) : TyOf K H (.ref a) (.type "list")
  | tup {a : Addr} {xs : List V} (e : H a = some (.tup xs)) : TyOf K H (.ref a) (.type "tuple")
  | dK {a : Addr} {kvs : List (Key × V)} (e : H a = some (.dK kvs)) : TyOf K H (.ref a) (.type "dict")
  | dT {a : Addr} {kvs : List (List Key × V)} (e : H a = some (.dT kvs)) : TyOf K H (.ref a) (.type "dict")
  | ins {a C dx : Addr} {fs : List (Str × V)} (e : H a = some (.ins C dx fs)) (cl : Cls K C) (ha : PySem.W.findIn K (.ref C) "__class__" = some (some (.builtin "object.__class__")))
      (hn : PySem.W.specialIn K (.builtin "object.__class__") "__get__" = some (some (.builtin "getset_descriptor.__get__"))) (htk : PySem.W.takesIn K (.builtin "object.__class__") = some true)
      (hm : PySem.W.mroIn K C (.type "object") = some true) : TyOf K H (.ref a) (.ref C)
/-- isinstance(x, c) for one class c, a built-in or an own one: kitOne's answer -/
theorem isinst_ok {x : V} {u t : Value} (I : Inv X pins σ H s) (rx : RelV x u) (ty : TyOf X.K H x t) (e : PySem.W.kitOne X.K t c = some b) (h : ∀ tk, Q (.bool b) { s with toks := tk }) :
    wpAny (model X.prog X.w) A (call (.builtin "isinstance") [u, c]) Q E s := by
  cases ty with
  | non => cases (show u = Value.none from rx); exact PySem.W.kia_one PySem.W.kitx_none I.kIn True.intro e (fun z => nomatch z) h
  | bl y => cases (show u = Value.bool y from rx); exact PySem.W.kia_one PySem.W.kitx_bool I.kIn True.intro e (fun z => nomatch z) h
  | int i => obtain ⟨t, q⟩ := (show ∃ t, u = Value.int i t from rx); cases q; exact PySem.W.kia_one PySem.W.kitx_int I.kIn True.intro e (fun z => nomatch z) h
  | str y => obtain ⟨t, q⟩ := (show ∃ t, u = Value.str y t from rx); cases q; exact PySem.W.kia_one PySem.W.kitx_str I.kIn True.intro e (fun z => nomatch z) h
  | flt y => obtain ⟨t, q⟩ := (show ∃ t, u = Value.float y t from rx); cases q; exact PySem.W.kia_one PySem.W.kitx_float I.kIn True.intro e (fun z => nomatch z) h
  | @lst a xs ea =>
    cases (show u = Value.ref a from rx)
    obtain ⟨_, _, n, _, h1⟩ := (show ObjOk X.prog X.w H s.heap a (.lst xs) from I.hok a _ ea)
    exact PySem.W.kia_one PySem.W.kitx_list I.kIn ⟨_, h1, rfl⟩ e (fun z => nomatch z) h
  | @frz a ob xs ea =>
    cases (show u = Value.ref a from rx)
    obtain ⟨_, _, _, n, _, h1⟩ := (show ObjOk X.prog X.w H s.heap a (.frz ob (.lst xs)) from I.hok a _ ea)
    exact PySem.W.kia_one PySem.W.kitx_list I.kIn ⟨_, h1, rfl⟩ e (fun z => nomatch z) h
  | @tup a xs ea =>
    cases (show u = Value.ref a from rx)
    obtain ⟨_, _, _, p⟩ := (show ObjOk X.prog X.w H s.heap a (.tup xs) from I.hok a _ ea)
    obtain ⟨o, h1, h2, _⟩ := p
    exact PySem.W.kia_one PySem.W.kitx_tuple I.kIn ⟨o, h1, h2⟩ e (fun z => nomatch z) h
  | @dK a kvs ea =>
    cases (show u = Value.ref a from rx)
    obtain ⟨_, _, vs, _, p⟩ := (show ObjOk X.prog X.w H s.heap a (.dK kvs) from I.hok a _ ea)
    obtain ⟨o, es, ep, h1, h2, _⟩ := p
    exact PySem.W.kia_one PySem.W.kitx_dict I.kIn ⟨o, h1, h2.1⟩ e (fun z => nomatch z) h
  | @dT a kvs ea =>
    cases (show u = Value.ref a from rx)
    obtain ⟨_, _, xs, _, o, es, ep, h1, h2, _⟩ := (show ObjOk X.prog X.w H s.heap a (.dT kvs) from I.hok a _ ea)
    exact PySem.W.kia_one PySem.W.kitx_dict I.kIn ⟨o, h1, h2.1⟩ e (fun z => nomatch z) h
  | @ins a C dx fs ea cl ha hn htk hm =>
    cases (show u = Value.ref a from rx)
    obtain ⟨mA, O, _⟩ := ins_get I.hok ea
    obtain ⟨od, J, _⟩ := O.look
    exact PySem.W.kia_one (PySem.W.kitx_own (cl.get _) cl.hd ha hn htk hm) I.kIn J e (fun z => nomatch z) h
end
end L2
namespace L2
open PySem PySem.Spec PyProof.Rows
structure Room (k : Nat) (A : Around) : Prop where
  hd : A.handled = none
  dp : A.depth + 3 * k + 5 < recursionLimit
  un : A.units + 16 * k + 200 < cLine
theorem Room.mono {j k : Nat} {A : Around} (r : Room k A) (h : j ≤ k) : Room j A := ⟨r.hd, by have := r.dp; omega, by have := r.un; omega⟩
theorem Room.deeper {k : Nat} {A : Around} (r : Room (k + 1) A) (env : Env) : Room k (A.deeper env) :=
  ⟨r.hd, by have := r.dp; show A.depth + 1 + 3 * k + 5 < _; omega, by have := r.un; show A.units + 3 + 16 * k + 200 < _; omega⟩
theorem make_depth {A : Around} {C : Addr} {us : List Value} {kw : List (Str × Value)} : (A.under (.builtin "type.__call__" ⟨.ref C :: us, kw⟩)).depth = A.depth + 1 := by
  first | rfl | simp [Around.under, Code.weight, Code.isCreation, Code.isGuard, Code.isCaller, Code.frames, Code.isFrame, guardIds]
theorem make_units {A : Around} {C : Addr} {us : List Value} {kw : List (Str × Value)} : (A.under (.builtin "type.__call__" ⟨.ref C :: us, kw⟩)).units = A.units + 1 := by
  first | rfl | simp [Around.under, Code.cUnits, Code.frames, Code.isFrame]
theorem Room.make {k : Nat} {A : Around} (r : Room (k + 1) A) (C : Addr) (us : List Value) (kw : List (Str × Value)) : Room k (A.under (.builtin "type.__call__" ⟨.ref C :: us, kw⟩)) :=
  ⟨r.hd, by have := r.dp; rw [make_depth]; omega, by have := r.un; rw [make_units]; omega⟩
theorem Room.depth {k : Nat} {A : Around} (r : Room k A) : A.depth < recursionLimit := by have := r.dp; omega
theorem Room.units {k : Nat} {A : Around} (r : Room k A) : A.units + 64 < cLine := by have := r.un; omega
def tNil : TA := fun _ H Q => Q [] H
def tCons (ta : TE) (tr : TA) : TA := fun σ H Q => ta σ H fun x H1 => tr σ H1 fun xs H2 => Q (x :: xs) H2
section
variable {X : Cx} {e : Expr} {es : List Expr} {te : TE} {t : TA} {pos : Pos}
theorem pa_nil : PA X [] tNil := fun _ _ _ _ H Q I h => Calls.spliced_nil ⟨[], H, I, .nil, h⟩
theorem pa_cons (ha : PE X e te) (hr : PA X es t) (hs : starEach (e :: es) X.env = (false, eval e X.env) :: starEach es X.env := by rfl) : PA X (e :: es) (tCons te t) := by
  intro pos pins s σ H Q I h
  rw [hs]
  show wpAny _ _ (spliced ((false, eval e X.env) :: backTo pos (starEach es X.env))) _ _ s
  refine Calls.spliced_cons (thn (ha pins s σ H _ I h) fun u s1 ⟨x, H1, I1, r1, q1⟩ => ?_)
  exact thn (hr pos pins s1 σ H1 _ I1 q1) fun us s2 ⟨xs, H2, I2, r2, q2⟩ => ⟨x :: xs, H2, I2, .cons r1 r2, q2⟩
/-- a tuple, a list of written items -/
def tTup (t : TA) : TE := fun σ H Q => t σ H fun xs H1 => xs.length ≤ sizeLine ∧ ∀ p, H1 p = none → Q (.ref p) (upd H1 p (.tup xs))
def tLst (t : TA) : TE := fun σ H Q => t σ H fun xs H1 => xs.length ≤ sizeLine ∧ ∀ p, H1 p = none → Q (.ref p) (upd H1 p (.lst xs))
theorem pe_tup {x1} (h : PA X es t) : PE X (.Tuple es x1 pos) (tTup t) := by
  intro pins s σ H Q I hq
  refine wpAny_Tuple_spliced (thn (h pos pins s σ H _ I hq) fun us s1 ⟨xs, H1, I1, r, z, q⟩ => ⟨by rw [← r.length]; exact z, ?_⟩)
  have hf : H1 s1.heap.objs.size = none := I1.hok.fresh (Nat.le_refl _)
  refine ⟨.ref s1.heap.objs.size, upd H1 s1.heap.objs.size (.tup xs), I1.laid (t' := s1.toks) (fun b u e => Heap.get?_push_of_some _ e) (Nat.le_refl _) ?_, rfl, q _ hf⟩
  exact ⟨z, us, r, ⟨_, Heap.get?_push_size _ rfl, rfl, _, rfl⟩⟩
theorem pe_lst (h : PA X es t) : PE X (.List es pos) (tLst t) := by
  intro pins s σ H Q I hq
  refine wpAny_List_spliced (thn (h pos pins s σ H _ I hq) fun us s1 ⟨xs, H1, I1, r, z, q⟩ => ⟨by rw [← r.length]; exact z, ?_⟩)
  have hf : H1 s1.heap.objs.size = none := I1.hok.fresh (Nat.le_refl _)
  refine ⟨.ref s1.heap.objs.size, upd H1 s1.heap.objs.size (.lst xs), I1.laid (t' := s1.toks) (fun b u e => Heap.get?_push_of_some _ e) (Nat.le_refl _) ?_, rfl, q _ hf⟩
  exact ⟨z, us, 0, r, Heap.get?_push_size _ rfl⟩
end
/-- a def's promise: the bound arguments in the parameters' order, the heap, the wanted end, the wanted exception -/
abbrev Sp := List V → Hp → VK → XK → Prop
/-- how an exception lies behind a call (file 08 gives it): the callers' frames, abstract heap and state ahead of the call, the wish, the exception, the state -/
abbrev CXT := List Env → Hp → Shared → XK → Value → Shared → Prop
/-- the state at a call -/
structure Env0 (P : Program) (w : World) (K : PySem.W.Frag) (mg : Str → Option Value) (base : Heap) (A : Around) (outer : List Env) (s : Shared) (H : Hp) : Prop where
  frames : A.frames = some outer
  mod : Mod K mg base
  bs : ∀ b o, base.get? b = some o → s.heap.get? b = some o ∧ H b = none
  bsz : base.objs.size ≤ s.heap.objs.size
  funs : s.heap.FunFrames base outer
  frf : ∀ b ∈ frs outer, H b = none
  hok : HOk P w H s.heap
  bare : AllBare s.gens
/-- a call's end -/
def CE (outer : List Env) (P : Program) (w : World) (H : Hp) (s : Shared) (Q : VK) (u : Value) (s' : Shared) : Prop :=
  ∃ v H', s'.os = s.os ∧ AllBare s'.gens ∧ Un (frs outer) [] H H' s.heap s'.heap ∧ HOk P w H' s'.heap ∧ RelV v u ∧ Q v H'
def CR (CX : CXT) (outer : List Env) (P : Program) (w : World) (H : Hp) (s : Shared) (Q : VK) (E : XK) (r : Result) (s' : Shared) : Prop :=
  match r with
  | .ok (.ret u) => CE outer P w H s Q u s'
  | .ok _ => False
  | .error e => CX outer H s E e s'
structure FnOk (P : Program) (w : World) (K : PySem.W.Frag) (mg : Str → Option Value) (base : Heap) (CX : CXT) (k : Nat) (f : Addr) (fd : FuncData) (ps : List Str) (sp : Sp) : Prop where
  len : ∀ vs H Q E, sp vs H Q E → vs.length = ps.length
  run : ∀ (A : Around) (outer : List Env) (s : Shared) (H : Hp) (args : Args) (us : List Value) (vs : List V) (Q : VK) (E : XK), Room k A → Env0 P w K mg base A outer s H → BindsTo s fd args (ps.zip us) → Vals vs us → sp vs H Q E →
    codeAny (model P w) A (.call (.ref f) args) (CR CX outer P w H s Q E) s
theorem Env0.make {P : Program} {w : World} {K : PySem.W.Frag} {mg : Str → Option Value} {base : Heap} {A : Around} {outer : List Env} {s : Shared} {H : Hp} (e : Env0 P w K mg base A outer s H) (C : Addr) (us : List Value) (kw : List (Str × Value)) :
    Env0 P w K mg base (A.under (.builtin "type.__call__" ⟨.ref C :: us, kw⟩)) outer s H := ⟨by first | exact e.frames | (simpa [Around.under, Code.envs, Code.isFrame, pushEnvs] using e.frames), e.mod, e.bs, e.bsz, e.funs, e.frf, e.hok, e.bare⟩
section
variable {X : Cx} {pins : List (Addr × Obj)} {σ : St} {H : Hp} {s s' : Shared}
/-- from a body: what a callee wants -/
theorem Inv.env0 (I : Inv X pins σ H s) : Env0 X.prog X.w X.K X.mg X.base X.A X.stack s H :=
  ⟨I.ok.frames, I.ok.mod, I.bs, Nat.le_trans I.ok.bsz I.sz, I.stack, I.stkFree, I.hok, I.bare⟩
/-- behind a call -/
theorem Inv.after {Q : VK} {u : Value} (I : Inv X pins σ H s) (h : CE X.stack X.prog X.w H s Q u s') : EP X pins σ Q u s' := by
  obtain ⟨v, H', os, bare, un, hok, r, q⟩ := h
  obtain ⟨hh, g, d, t, os'⟩ := s'
  obtain rfl : os' = s.os := os
  exact ⟨v, H', I.call (h' := hh) (g' := g) (d' := d) (t' := t) (ch := []) un hok bare (fun b z => absurd z (by simp)), r, q⟩
end
/-- f(..): the written arguments, then the defaults dvs; E: what is wanted of an exception -/
def tCall (sp : Sp) (dvs : List V) (E : XK) (t : TA) : TE := fun σ H Q => t σ H fun vs H1 => sp (vs ++ dvs) H1 Q E
/-- o.m(..) of an instance of the class at C -/
def tMeth (C : Addr) (m : Str) (sp : Sp) (dvs : List V) (E : XK) (ta : TE) (t : TA) : TE := fun σ H Q => ta σ H fun x H1 => ∃ a dx fs, x = .ref a ∧ H1 a = some (.ins C dx fs) ∧ fs.lookup m = none ∧
  t σ H1 fun vs H2 => sp (x :: (vs ++ dvs)) H2 Q E
/-- C(..): a new instance and its dict, then __init__ -/
def tMake (C : Addr) (sp : Sp) (dvs : List V) (E : XK) (t : TA) : TE := fun σ H Q => t σ H fun vs H1 => ∀ x dx, H1 x = none → H1 dx = none → dx ≠ x →
  sp (.ref x :: (vs ++ dvs)) (upd (upd H1 dx (.own x)) x (.ins C dx [])) (fun v H2 => v = .non ∧ Q (.ref x) H2) E
/-- how the parameters are bound: us the positional arguments, kw the keywords' values by name, ds the defaults that fill up -/
def Binds (K : PySem.W.Frag) (fd : FuncData) (ps : List Str) (ds : List Value) : Prop :=
  ∀ (s : Shared) (us : List Value), K.In s.heap → (us ++ ds).length = ps.length → BindsTo s fd ⟨us, []⟩ (ps.zip (us ++ ds))
/-- every parameter is given -/
theorem Binds.all {K : PySem.W.Frag} {fd : FuncData} {ps : List Str} (h : ∀ us : List Value, us.length = ps.length → bindArgs fd ⟨us, []⟩ = pure (ps.zip us)) : Binds K fd ps [] := fun s us _ hl => by
  rw [List.append_nil] at hl ⊢
  exact .of_eq (h us hl)
/-- an exception of a callee reaches what this body wants of exceptions -/
def Passes (CX : CXT) (X : Cx) (E : XK) : Prop := ∀ (pins : List (Addr × Obj)) (σ : St) (H : Hp) (s : Shared) (e : Value) (s' : Shared), Inv X pins σ H s → CX X.stack H s E e s' → X.xe e s'
section
variable {X : Cx} {CX : CXT} {k : Nat} {f C : Addr} {fd : FuncData} {ps : List Str} {sp : Sp} {dvs : List V} {ds : List Value} {E : XK} {x m : Str} {p pos apos : Pos} {e o : Expr} {es : List Expr} {ta : TE} {t : TA}
/-- the callee runs -/
theorem run_fn {pins : List (Addr × Obj)} {σ : St} {H : Hp} {s : Shared} {Q : VK} {us : List Value} {vs : List V} (F : FnOk X.prog X.w X.K X.mg X.base CX k f fd ps sp) (hr : Room k X.A) (hb : Binds X.K fd ps ds) (hd : Vals dvs ds) (hx : Passes CX X E)
    (I : Inv X pins σ H s) (r : Vals vs us) (h : sp (vs ++ dvs) H Q E) : wpAny (model X.prog X.w) X.A (call (.ref f) us) (EP X pins σ Q) X.xe s := by
  have r2 : Vals (vs ++ dvs) (us ++ ds) := r.append hd
  have hl : (us ++ ds).length = ps.length := by rw [← r2.length]; exact F.len _ _ _ _ h
  refine wpAny_call (codeAny_mono (F.run X.A X.stack s H ⟨us, []⟩ (us ++ ds) (vs ++ dvs) Q E hr I.env0 (hb s us I.kIn hl) r2 h) fun r s' hq => ?_)
  cases r with
  | error e => exact hx pins σ H s e s' I hq
  | ok fl =>
    cases fl with
    | ret u => exact I.after hq
    | next => exact False.elim hq
    | brk => exact False.elim hq
    | cont => exact False.elim hq
theorem pe_call (F : FnOk X.prog X.w X.K X.mg X.base CX k f fd ps sp) (hr : Room k X.A) (hg : Gl X x) (hm : X.mg x = some (.ref f)) (hk : PySem.W.keepIn X.K (.ref f) = true) (hb : Binds X.K fd ps ds) (hd : Vals dvs ds) (hx : Passes CX X E)
    (ha : PA X (e :: es) t) (hdb : (x == ("__debug__" : Str)) = false := by decide) (he : starEach (e :: es) X.env = (false, eval e X.env) :: starEach es X.env := by rfl) (hpl : (backTo pos (starEach es X.env)).any (·.1) = false := by rfl) :
    PE X (.Call (.Name x p) (e :: es) [] pos) (tCall sp dvs E t) := by
  intro pins s σ H Q I h
  refine wpAny_Call_Name_kw (ld_glob I hg hm ?_ hdb)
  refine PySem.W.callWith_K (h₀ := X.base) I.ok.mod.kin hk (thn (ha pos pins s σ H _ I h) fun us s1 ⟨vs, H1, I1, r, q⟩ => ⟨I1.kIn, ?_⟩) he hpl
  exact run_fn F hr hb hd hx I1 r q
/-- o.m() -/
theorem pe_meth0 {pl : Sem Bool} (he : PE X o ta) (c : Cls X.K C) (hm : Meth X.K C m f) (F : FnOk X.prog X.w X.K X.mg X.base CX k f fd ps sp) (hr : Room k X.A) (hb : Binds X.K fd ps ds) (hd : Vals dvs ds) (hx : Passes CX X E)
    (ht : eval (.Call (.Attribute o m apos) [] [] pos) X.env = (do
      let ov ← eval o X.env
      standAt apos.atName
      let (f, first) ← holding [ov] (getMethod ov m pl)
      callWith pos f first (backTo pos (starEach [] X.env)) (backToKw pos (keywordEach [] X.env))) := by rfl) :
    PE X (.Call (.Attribute o m apos) [] [] pos) (tMeth C m sp dvs E ta tNil) := by
  intro pins s σ H Q I h
  refine PySem.W.methodCall_KW (pl := pl) (thn (he pins s σ H _ I h) fun u s1 ⟨x, H1, I1, rx, a, dx, fs, ex, ea, l, q⟩ => ?_) ht
  subst ex
  obtain rfl : u = Value.ref a := rx
  refine getmeth_ok I1 ea c hm l ?_
  exact PySem.W.callWith_K0 (first := [.ref a]) I1.kIn hm.kp (run_fn (us := [.ref a]) (vs := [.ref a]) F hr hb hd hx I1 (.cons rfl .nil) q)
/-- what a class must have to be made -/
structure Mk (K : PySem.W.Frag) (C f : Addr) : Prop where
  makes : PySem.W.makesIn K C = true
  init : PySem.W.findIn K (.ref C) "__init__" = some (some (.ref f))
  fn : PySem.W.isFn K (.ref f) = true
  kp : PySem.W.keepIn K (.ref C) = true
theorem run_make {pins : List (Addr × Obj)} {σ : St} {H : Hp} {s : Shared} {Q : VK} {us : List Value} {vs : List V} (M : Mk X.K C f) (F : FnOk X.prog X.w X.K X.mg X.base CX k f fd ps sp) (hr : Room (k + 1) X.A) (hb : Binds X.K fd ps ds) (hd : Vals dvs ds)
    (hx : Passes CX X E) (I : Inv X pins σ H s) (r : Vals vs us)
    (h : ∀ x dx, H x = none → H dx = none → dx ≠ x → sp (.ref x :: (vs ++ dvs)) (upd (upd H dx (.own x)) x (.ins C dx [])) (fun v H2 => v = .non ∧ Q (.ref x) H2) E) :
    wpAny (model X.prog X.w) X.A (call (.ref C) us) (EP X pins σ Q) X.xe s := by
  have hq := h (s.heap.objs.size + 1) s.heap.objs.size (I.hok.fresh (Nat.le_succ _)) (I.hok.fresh (Nat.le_refl _)) (Nat.ne_of_lt (Nat.lt_succ_self _))
  have I2 := Inv.made (C := C) I
  have r2 : Vals (V.ref (s.heap.objs.size + 1) :: (vs ++ dvs)) (Value.ref (s.heap.objs.size + 1) :: (us ++ ds)) := .cons rfl (r.append hd)
  have hl : (Value.ref (s.heap.objs.size + 1) :: us ++ ds).length = ps.length := by
    have e := r2.length
    rw [F.len _ _ _ _ hq] at e
    exact e.symm
  refine wpAny_call (make_map (f := f) I.kIn M.makes M.init (beq_iff_eq.mp M.fn) (codeAny_mono (F.run _ X.stack _ _ ⟨Value.ref (s.heap.objs.size + 1) :: us, []⟩ (Value.ref (s.heap.objs.size + 1) :: (us ++ ds)) _ _ E (hr.make C us [])
    (I2.env0.make C us []) (hb _ (Value.ref (s.heap.objs.size + 1) :: us) I2.kIn hl) r2 hq) fun r s' hq' => ?_))
  cases r with
  | error e => exact hx pins σ _ _ e s' I2 hq'
  | ok fl =>
    cases fl with
    | ret u =>
      obtain ⟨v, H', I3, rv, ev, q3⟩ := I2.after hq'
      subst ev
      exact ⟨rv, ⟨V.ref (s.heap.objs.size + 1), H', I3, rfl, q3⟩⟩
    | next => exact False.elim hq'
    | brk => exact False.elim hq'
    | cont => exact False.elim hq'
theorem pe_make (M : Mk X.K C f) (F : FnOk X.prog X.w X.K X.mg X.base CX k f fd ps sp) (hr : Room (k + 1) X.A) (hg : Gl X x) (hm : X.mg x = some (.ref C)) (hb : Binds X.K fd ps ds) (hd : Vals dvs ds) (hx : Passes CX X E)
    (ha : PA X (e :: es) t) (hdb : (x == ("__debug__" : Str)) = false := by decide) (he : starEach (e :: es) X.env = (false, eval e X.env) :: starEach es X.env := by rfl) (hpl : (backTo pos (starEach es X.env)).any (·.1) = false := by rfl) :
    PE X (.Call (.Name x p) (e :: es) [] pos) (tMake C sp dvs E t) := by
  intro pins s σ H Q I h
  refine wpAny_Call_Name_kw (ld_glob I hg hm ?_ hdb)
  refine PySem.W.callWith_K (h₀ := X.base) I.ok.mod.kin M.kp (thn (ha pos pins s σ H _ I h) fun us s1 ⟨vs, H1, I1, r, q⟩ => ⟨I1.kIn, ?_⟩) he hpl
  exact run_make M F hr hb hd hx I1 r q
end
/-- the values of the keywords, from the left -/
def PK (X : Cx) (kws : List Keyword) (t : TA) : Prop :=
  ∀ (pos : Pos) (pins : List (Addr × Obj)) (s : Shared) (σ : St) (H : Hp) (Q : List V → Hp → Prop), Inv X pins σ H s → t σ H Q → wpAny (model X.prog X.w) X.A (evalAll ((backToKw pos (keywordEach kws X.env)).map (·.2))) (AP X pins σ Q) X.xe s
section
variable {X : Cx} {CX : CXT} {k : Nat} {f C : Addr} {fd : FuncData} {ps ks : List Str} {sp : Sp} {E : XK} {x m : Str} {p pos apos kpos : Pos} {e o : Expr} {es : List Expr} {kws : List Keyword} {te ta : TE} {t tk : TA} {nm : Option Str}
theorem pk_nil : PK X [] tNil := fun _ _ _ _ H Q I h => wpAny_evalAll_nil ⟨[], H, I, .nil, h⟩
theorem pk_cons (ha : PE X e te) (hr : PK X kws t) : PK X (⟨nm, e, kpos⟩ :: kws) (tCons te t) := by
  intro pos pins s σ H Q I h
  show wpAny _ _ (evalAll ((do let v ← eval e X.env; standAt pos; pure v) :: (backToKw pos (keywordEach kws X.env)).map (·.2))) _ _ s
  refine wpAny_evalAll_cons (wpAny_bind (thn (ha pins s σ H _ I h) fun u s1 ⟨x, H1, I1, r1, q1⟩ => wpAny_bind (wpAny_standAt (wpAny_pure ?_))))
  exact thn (hr pos pins s1 σ H1 _ I1 q1) fun us s2 ⟨xs, H2, I2, r2, q2⟩ => ⟨x :: xs, H2, I2, .cons r1 r2, q2⟩
variable {g : List Value → List Value → List Value} {gV : List V → List V → List V}
end
/-- names: the parameters first -/
structure FnScope (N P : List Str) (sc : Scope) : Prop where
  kind : sc.kind = .function
  co : sc.isCoroutine = false
  gen : sc.isGenerator = false
  nd : N.Nodup
  pre : N.take P.length = P
  par : ∀ x ∈ P, sc.names.lookup x = some .local ∨ sc.names.lookup x = some .cell
  nofree : ∀ y ∈ sc.names, y.2 ≠ .free
theorem bindL_out {kindOf : Str → Option NameKind} {x : Str} : ∀ {binds : List (Str × Value)} {m : Str → Option Value}, (∀ v, (x, v) ∉ binds) → bindL kindOf binds m x = m x
  | [], _, _ => rfl
  | (n, v) :: r, m, h => by
    unfold bindL
    rw [bindL_out fun w hw => h w (List.mem_cons_of_mem _ hw)]
    split
    · have : x ≠ n := by rintro rfl; exact h v List.mem_cons_self
      simp [this]
    · rfl
theorem bindC_out {kindOf : Str → Option NameKind} {x : Str} : ∀ {binds : List (Str × Value)} {m : Str → Option Value}, (∀ v, (x, v) ∉ binds) → bindC kindOf binds m x = m x
  | [], _, _ => rfl
  | (n, v) :: r, m, h => by
    unfold bindC
    rw [bindC_out fun w hw => h w (List.mem_cons_of_mem _ hw)]
    split
    · rfl
    · have : x ≠ n := by rintro rfl; exact h v List.mem_cons_self
      simp [this]
theorem bindL_get {kindOf : Str → Option NameKind} {x : Str} {v : Value} : ∀ {P : List Str} {vs : List Value} {i : Nat} {m : Str → Option Value}, P.Nodup → P[i]? = some x → vs[i]? = some v → kindOf x = some .local →
    bindL kindOf (P.zip vs) m x = some v
  | [], _, _, _, _, h, _, _ => by simp at h
  | _ :: _, [], _, _, _, _, h, _ => by simp at h
  | p :: P, w :: vs, 0, m, nd, h1, h2, hk => by
    simp at h1 h2; subst h1; subst h2
    show bindL kindOf ((p, w) :: P.zip vs) m p = _
    unfold bindL
    rw [bindL_out fun v hv => (List.nodup_cons.mp nd).1 (List.of_mem_zip hv).1, if_pos hk]
    simp
  | p :: P, w :: vs, i + 1, m, nd, h1, h2, hk => by
    show bindL kindOf ((p, w) :: P.zip vs) m x = _
    unfold bindL
    exact bindL_get (i := i) (List.nodup_cons.mp nd).2 (by simpa using h1) (by simpa using h2) hk
theorem bindC_get {kindOf : Str → Option NameKind} {x : Str} {v : Value} : ∀ {P : List Str} {vs : List Value} {i : Nat} {m : Str → Option Value}, P.Nodup → P[i]? = some x → vs[i]? = some v → kindOf x ≠ some .local →
    bindC kindOf (P.zip vs) m x = some v
  | [], _, _, _, _, h, _, _ => by simp at h
  | _ :: _, [], _, _, _, _, h, _ => by simp at h
  | p :: P, w :: vs, 0, m, nd, h1, h2, hk => by
    simp at h1 h2; subst h1; subst h2
    show bindC kindOf ((p, w) :: P.zip vs) m p = _
    unfold bindC
    rw [bindC_out fun v hv => (List.nodup_cons.mp nd).1 (List.of_mem_zip hv).1, if_neg hk]
    simp
  | p :: P, w :: vs, i + 1, m, nd, h1, h2, hk => by
    show bindC kindOf ((p, w) :: P.zip vs) m x = _
    unfold bindC
    exact bindC_get (i := i) (List.nodup_cons.mp nd).2 (by simpa using h1) (by simpa using h2) hk
/-- the names' values at the entry -/
def start (N : List Str) (vs : List V) : St := vs.map some ++ List.replicate (N.length - vs.length) none
/-- the context of a def's body, at its entry; an exception leaves the frame, then lies as CX says -/
def cxOf (CX : CXT) (P : Program) (w : World) (K : PySem.W.Frag) (mg : Str → Option Value) (base : Heap) (N : List Str) (qual : Str) (scope : Scope) (f : Addr) (cd : Value) (A : Around) (outer : List Env) (s : Shared) (H : Hp) (E : XK) : Cx where
  prog := P
  w := w
  K := K
  mg := mg
  base := base
  A := A.deeper (envOfC qual scope s.heap.objs.size f cd)
  N := N
  s₀ := s
  H₀ := H
  env := envOfC qual scope s.heap.objs.size f cd
  outer := outer
  stack := envOfC qual scope s.heap.objs.size f cd :: outer
  ex := []
  calm := true
  fn := fun _ => true
  pn := []
  xe := fun e s' => wpAny (model P w) (A.deeper (envOfC qual scope s.heap.objs.size f cd)) (leaving (envOfC qual scope s.heap.objs.size f cd) e) (fun _ s'' => CX outer H s E e s'') (fun e' s'' => CX outer H s E e' s'') s'
theorem cell_has {sc : Scope} {n : Nat} {x : Str} (h : sc.names.lookup x = some .cell) : ∃ c, (cellsFrom n sc.names []).lookup x = some c := by
  have q := PySem.W.cellsFrom_some sc.names n [] (.inl h)
  exact Option.isSome_iff_exists.mp q
theorem inv_start {CX : CXT} {P : Program} {w : World} {K : PySem.W.Frag} {mg : Str → Option Value} {base : Heap} {N ps : List Str} {qual : Str} {scope : Scope} {f : Addr} {cd : Value} {A : Around} {outer : List Env} {s s1 : Shared} {H : Hp} {E : XK} {us : List Value} {vs : List V}
    (S : FnScope N ps scope) (hd : A.handled = none) (e0 : Env0 P w K mg base A outer s H) (hl : vs.length = ps.length) (r : Vals vs us)
    (x : InCallC s s.heap.objs.size (bindL (envOfC qual scope s.heap.objs.size f cd).kindOf (ps.zip us) fun _ => none) (cellsFrom (s.heap.objs.size + 1) scope.names []) (bindC (envOfC qual scope s.heap.objs.size f cd).kindOf (ps.zip us) fun _ => none) s1) :
    Inv (cxOf CX P w K mg base N qual scope f cd A outer s H E) [] (start N vs) H s1 := by
  have hpl : ps.length ≤ N.length := by have := congrArg List.length S.pre; rw [List.length_take] at this; omega
  obtain ⟨h1, tk, rfl, hk⟩ := x.done
  have noA : ∀ b : Addr, b ∉ (cxOf CX P w K mg base N qual scope f cd A outer s H E).ex := fun b z => absurd (show b ∈ ([] : List Addr) from z) (by simp)
  refine ⟨⟨e0.mod, S.kind, rfl, rfl, Nat.le_refl _, fun y z c h1 h2 => ?_, fun y hy => ?_, fun y c _ h => ?_, fun _ => hd, Around.frames_deeper e0.frames, .inr ⟨rfl, rfl⟩, fun b z => absurd z (noA b), e0.bs, e0.bsz, fun b _ _ => noA b, fun b z => absurd z (noA b), e0.funs, e0.frf⟩,
    rfl, e0.bare, Un.kept hk, ⟨_, x.toInCall.ns, fun i y v h1 h2 h3 => ?_⟩, fun y c h => ⟨_, x.cell y c h⟩, e0.hok.fresh (Nat.le_refl _), fun y c h => ?_, fun p hp => absurd (show p ∈ ([] : List (Addr × Obj)) from hp) (by simp), e0.hok.kept hk, ?_⟩
  · exact name_of_addr x.apart (PySem.mem_of_lookup h1) (PySem.mem_of_lookup h2)
  · have hy : scope.names.lookup y = some .cell ∨ scope.names.lookup y = some .free := hy
    rcases hy with hy | hy
    · exact cell_has hy
    · exact absurd rfl (S.nofree _ (PySem.mem_of_lookup hy))
  · exact Nat.le_of_lt (x.above y c (PySem.mem_of_lookup h))
  · have hi : i < vs.length := by
      unfold start at h2
      by_cases hi : i < vs.length
      · exact hi
      · rw [List.getElem?_append_right (by simpa using hi)] at h2
        rw [List.getElem?_replicate] at h2
        split at h2 <;> cases h2
    have ha : vs[i]? = some v := by
      unfold start at h2
      rw [List.getElem?_append_left (by simpa using hi), List.getElem?_map] at h2
      cases e : vs[i]? with
      | none => rw [e] at h2; cases h2
      | some a => rw [e] at h2; cases h2; rfl
    obtain ⟨u, hu, rv⟩ := r.get ha
    have hp : ps[i]? = some y := by
      rw [← S.pre, List.getElem?_take_of_lt (by omega)]; exact h1
    have ndP : ps.Nodup := by rw [← S.pre]; exact S.nd.sublist (List.take_sublist _ _)
    refine ⟨u, rv, ?_⟩
    rcases S.par y (List.mem_of_getElem? hp) with k | k
    · exact .inl ⟨k, bindL_get ndP hp hu k⟩
    · obtain ⟨c, e⟩ := cell_has (n := s.heap.objs.size + 1) k
      refine .inr ⟨.inl k, c, e, ?_⟩
      have q := x.cell y c e
      rw [bindC_get ndP hp hu (by show scope.names.lookup y ≠ _; rw [k]; decide)] at q
      exact q
  · exact e0.hok.fresh (Nat.le_of_lt (x.above y c (PySem.mem_of_lookup h)))
  · unfold start
    show _ = N.length
    rw [List.length_append, List.length_map, List.length_replicate]
    omega
/-- THE RULE: a def (or a method) of the text, by its body. The body's reading t is chosen for each entry; it is run at the parameters' values -/
theorem fn_of {CX : CXT} {P : Program} {w : World} {K : PySem.W.Frag} {mg : Str → Option Value} {base : Heap} {k : Nat} {f : Addr} {name qual : Str} {params : Arguments} {body : List Stmt} {scope : Scope} {dV kV doc pm cdv ct oc : Value} {an od : Option Addr}
    {osl : Array (Option Value)} {N ps : List Str} {sp : Sp} (lk : K.lookup f = some ⟨oc, od, .func (PySem.W.fnOf name qual params body scope dV kV doc pm an cdv ct), osl⟩) (hcd : PySem.W.codeIn K cdv qual = true) (S : FnScope N ps scope)
    (len : ∀ vs H Q E, sp vs H Q E → vs.length = ps.length)
    (hbody : ∀ (A : Around) (outer : List Env) (s : Shared) (H : Hp) (vs : List V) (Q : VK) (E : XK), Room k (A.deeper (envOfC qual scope s.heap.objs.size f cdv)) → sp vs H Q E →
      ∃ t, PSs (cxOf CX P w K mg base N qual scope f cdv A outer s H E) body t ∧ t { nx := fun _ H' => Q .non H', rt := Q } (start N vs) H) :
    FnOk P w K mg base CX (k + 1) f (PySem.W.fnOf name qual params body scope dV kV doc pm an cdv ct) ps sp := by
  refine ⟨len, fun A outer s H args us vs Q E hr e0 hb r hsp => ?_⟩
  have hl := len _ _ _ _ hsp
  have KX : K.In s.heap := e0.mod.kin.keeps fun b o e => (e0.bs b o e).1
  have lim : s.heap.NoLimit := e0.mod.nolimit.keeps fun b o e => (e0.bs b o e).1
  have hkind : ∀ y ∈ ps.zip us, scope.names.lookup y.1 = some .local ∨ (scope.names.lookup y.1 = some .cell ∧ ((cellsFrom (s.heap.objs.size + 1) scope.names []).lookup y.1).isSome = true) := fun ⟨n, v⟩ hy => by
    rcases S.par n (List.of_mem_zip hy).1 with q | q
    · exact .inl q
    · exact .inr ⟨q, PySem.W.cellsFrom_some _ _ _ (.inl q)⟩
  refine codeAny_call_function hr.depth (KX _ _ lk) rfl S.co S.gen rfl (PySem.W.codeRec_of KX hcd) (hb _ _ _ _ ?_)
  refine wpAny_newFunctionEnv_cells S.kind hkind fun env he s1 x => ?_
  subst he
  refine ⟨lim.keeps x.toInCall.keep, codeAny_func ?_⟩
  obtain ⟨t, ht, hq⟩ := hbody A outer s H vs Q E (hr.deeper _) hsp
  have I : Inv (cxOf CX P w K mg base N qual scope f cdv A outer s H E) [] (start N vs) H s1 := inv_start S hr.hd e0 hl r x
  refine wpAny_mono (ht [] s1 (start N vs) H _ I hq) (fun fl s' hs => ?_) fun e s' hs => hs
  have fin : ∀ {σ' : St} {H' : Hp} {v : V} {u : Value}, Inv (cxOf CX P w K mg base N qual scope f cdv A outer s H E) [] σ' H' s' → RelV v u → Q v H' → CE outer P w H s Q u s' :=
    fun {σ' H' v u} J rv q => ⟨v, H', J.os, J.bare, J.base, J.hok, rv, q⟩
  cases fl with
  | ret u =>
    obtain ⟨v, σ', H', J, rv, q⟩ := hs
    exact fin J rv q
  | next =>
    obtain ⟨σ', H', J, q⟩ := hs
    exact fin (v := V.non) (u := Value.none) J rfl q
  | brk =>
    obtain ⟨_, _, _, q⟩ := hs
    exact False.elim q
  | cont =>
    obtain ⟨_, _, _, q⟩ := hs
    exact False.elim q
end L2
namespace L2
open PySem PySem.Spec PyProof.Rows
section
variable {X : Cx} {x : Str} {p pos : Pos} {e : Expr} {es : List Expr} {t : TA} {id T : String} {r : List V → Hp → VK → Prop}
def tCB (r : List V → Hp → VK → Prop) (t : TA) : TE := fun σ H Q => t σ H fun vs H1 => r vs H1 Q
/-- f(e, ..), f a built-in function -/
theorem pe_callB (hc : CallR X (.builtin id) r) (hg : Gl X x) (hm : X.mg x = none) (hv : bootBuiltins x = some (.builtin id)) (ha : PA X (e :: es) t) (hn : x ≠ "__name__" := by decide) (hdb : (x == ("__debug__" : Str)) = false := by decide)
    (he : starEach (e :: es) X.env = (false, eval e X.env) :: starEach es X.env := by rfl) (hpl : (backTo pos (starEach es X.env)).any (·.1) = false := by rfl) : PE X (.Call (.Name x p) (e :: es) [] pos) (tCB r t) := by
  intro pins s σ H Q I h
  refine wpAny_Call_Name_kw (ld_blt I hg hm hv ?_ hn hdb)
  exact PyProof.Rows.callWith_builtin1 (thn (ha pos pins s σ H _ I h) fun us s1 ⟨vs, H1, I1, r1, q1⟩ => hc pins s1 σ H1 vs us Q I1 r1 q1) he hpl
/-- T(e, ..), T a built-in type -/
theorem pe_callTy (hc : CallR X (.type T) r) (hg : Gl X x) (hm : X.mg x = none) (hv : bootBuiltins x = some (.type T)) (ha : PA X (e :: es) t) (hn : x ≠ "__name__" := by decide) (hdb : (x == ("__debug__" : Str)) = false := by decide)
    (he : starEach (e :: es) X.env = (false, eval e X.env) :: starEach es X.env := by rfl) (hpl : (backTo pos (starEach es X.env)).any (·.1) = false := by rfl) : PE X (.Call (.Name x p) (e :: es) [] pos) (tCB r t) := by
  intro pins s σ H Q I h
  refine wpAny_Call_Name_kw (ld_blt I hg hm hv ?_ hn hdb)
  exact PyProof.Rows.callWith_type1 (thn (ha pos pins s σ H _ I h) fun us s1 ⟨vs, H1, I1, r1, q1⟩ => hc pins s1 σ H1 vs us Q I1 r1 q1) he hpl
end
end L2
namespace HT
open PySem PyProof.Rows
section
open PySem.SeqAt
open PySem.AutoSeq1 (wpAny_loadPart')
open PySem.MeetsSeq PySem.MeetsSeq2 PySem.MeetsSeq3
end
section
variable {prog : Program} {w : World} {A : Around} {E : Value → Shared → Prop} {s : Shared}
/-- a slice's bound as a place among n (d where it is left out) -/
def sIx (n d : Nat) : Option Int → Nat
  | none => d
  | some v => if v < 0 then (v + (n : Int)).toNat else min v.toNat n
theorem sIx_none (n d : Nat) : sIx n d none = d := rfl
theorem sIx_nat (n d k : Nat) : sIx n d (some (k : Int)) = min k n := by
  show (if (k : Int) < 0 then ((k : Int) + (n : Int)).toNat else min (k : Int).toNat n) = min k n
  rw [if_neg (by omega), Int.toNat_natCast]
end
end HT
namespace L2
open PySem PySem.Spec PyProof.Rows
abbrev TO := St → Hp → (Option Int → Hp → Prop) → Prop
/-- a slice's part (left out, or an int) -/
def PO (X : Cx) (e : Option Expr) (t : TO) : Prop :=
  ∀ (pins : List (Addr × Obj)) (s : Shared) (σ : St) (H : Hp) (Q : Option Int → Hp → Prop), Inv X pins σ H s → t σ H Q →
    wpAny (model X.prog X.w) X.A (evalPart e X.env) (fun u s' => ∃ o H', Inv X pins σ H' s' ∧ IsPart u o ∧ Q o H') X.xe s
def tNoPart : TO := fun _ H Q => Q none H
def tPart (t : TE) : TO := fun σ H Q => t σ H fun x H1 => ∃ i, x = .int i ∧ Q (some i) H1
theorem intsAre_of {ns : List Int} : ∀ {us : List Value}, Vals (ns.map V.int) us → IntsAre us ns := by
  induction ns with
  | nil => intro us r; rw [List.map_nil] at r; cases r; exact .nil
  | cons n ns ih =>
    intro us r
    rw [List.map_cons] at r
    cases r with
    | cons r1 r2 =>
      obtain ⟨t, e⟩ := r1
      subst e
      exact .cons n t (ih r2)
section
variable {X : Cx} {e : Expr} {te : TE} {lo hi : Option Expr} {tl th : TO} {pos p2 : Pos}
theorem po_none : PO X none tNoPart := by
  intro pins s σ H Q I h
  rw [evalPart_none]
  exact wpAny_pure ⟨none, H, I, .none, h⟩
theorem po_some (h : PE X e te) : PO X (some e) (tPart te) := by
  intro pins s σ H Q I hw
  rw [evalPart_some]
  refine thn (h pins s σ H _ I hw) fun u s1 ⟨x, H1, I1, r1, q1⟩ => ?_
  obtain ⟨i, rfl, q⟩ := q1
  obtain ⟨t, rfl⟩ := r1
  exact ⟨some i, H1, I1, .int i t, q⟩
/-- what a slice of a value is, by values: the slice object stands at sl -/
def SlR (X : Cx) (r : V → Option Int → Option Int → Hp → VK → Prop) : Prop :=
  ∀ (pins : List (Addr × Obj)) (s : Shared) (σ : St) (H : Hp) (x : V) (v vl vu : Value) (lo hi : Option Int) (sl : Addr) (Q : VK), Inv X pins σ H s → RelV x v → s.heap.IsSliceOf sl vl vu .none → IsPart vl lo → IsPart vu hi → r x lo hi H Q →
    ∃ T id, typeLookup (.type T) "__getitem__" = pure (some (.builtin id)) ∧ s.TypeIs v T ∧ wpAny (model X.prog X.w) X.A (getItem v (.ref sl)) (EP X pins σ Q) X.xe s
def tSl (r : V → Option Int → Option Int → Hp → VK → Prop) (te : TE) (tl th : TO) : TE := fun σ H Q => te σ H fun x H1 => tl σ H1 fun l H2 => th σ H2 fun u H3 => r x l u H3 Q
/-- a[lo:hi], any a -/
theorem pe_slice {r : V → Option Int → Option Int → Hp → VK → Prop} (hr : SlR X r) (he : PE X e te) (hl : PO X lo tl) (hu : PO X hi th) : PE X (.Subscript e (.Slice lo hi none p2) pos) (tSl r te tl th) := by
  intro pins s σ H Q I h
  refine Subscript_ (thn (he pins s σ H _ I h) fun v s1 ⟨x, H1, I1, r1, q1⟩ => ?_)
  refine wpAny_Slice (thn (hl pins s1 σ H1 _ I1 q1) fun vl s2 ⟨l, H2, I2, pl, q2⟩ => thn (hu pins s2 σ H2 _ I2 q2) fun vu s3 ⟨u, H3, I3, pu, q3⟩ => ?_)
  rw [evalPart_none]
  refine wpAny_pure ?_
  have I4 : Inv X pins σ H3 { s3 with heap := s3.heap.push { cls := .type "slice", data := .fields #[vl, vu, .none] } } := I3.kept (t' := s3.toks) fun b ob q => Heap.get?_push_of_some _ q
  obtain ⟨T, id, hT, ht, hg⟩ := hr pins { s3 with heap := s3.heap.push { cls := .type "slice", data := .fields #[vl, vu, .none] } } σ H3 x v vl vu l u s3.heap.objs.size Q I4 r1 (Heap.IsSliceOf.new ..) pl pu q3
  show wpAny (model X.prog X.w) X.A (subscriptTail e (.Slice lo hi none p2) v (.ref s3.heap.objs.size)) (EP X pins σ Q) X.xe { s3 with heap := s3.heap.push { cls := .type "slice", data := .fields #[vl, vu, .none] } }
  exact tail_any (ops := [.ref s3.heap.objs.size, v]) ht hT hg (by with_unfolding_all rfl)
/-- the items of xs[lo:hi] -/
def cutV (xs : List V) (lo hi : Option Int) : List V := (xs.drop (HT.sIx xs.length 0 lo)).take (HT.sIx xs.length xs.length hi - HT.sIx xs.length 0 lo)
theorem cutV_length (xs : List V) (lo hi : Option Int) : (cutV xs lo hi).length ≤ xs.length := by
  unfold cutV
  rw [List.length_take, List.length_drop]
  omega
end
end L2
namespace L2
open PySem PySem.Spec PyProof.Rows
/-- the place that an index of any sign means -/
def ixN (n : Nat) (i : Int) : Option Nat := if 0 ≤ i then (if i < n then some i.toNat else none) else if -(n : Int) ≤ i then some (i + n).toNat else none
def atI {α : Type} (xs : List α) (i : Int) : Option α := (ixN xs.length i).bind fun j => xs[j]?
theorem ixN_seq {n : Nat} {i : Int} {j : Nat} (h : ixN n i = some j) : seqIndex? i n = some j ∧ j < n ∧ -(n : Int) ≤ i ∧ i < n := by
  unfold ixN at h
  by_cases h0 : 0 ≤ i
  · rw [if_pos h0] at h
    by_cases h1 : i < n
    · rw [if_pos h1] at h
      have e : i.toNat = j := Option.some.inj h
      exact ⟨by rw [seqIndex_of h0 h1, e], by omega, by omega, h1⟩
    · rw [if_neg h1] at h; cases h
  · rw [if_neg h0] at h
    by_cases h1 : -(n : Int) ≤ i
    · rw [if_pos h1] at h
      have e : (i + n).toNat = j := Option.some.inj h
      exact ⟨by rw [seqIndex_neg (by omega) h1, e], by omega, h1, by omega⟩
    · rw [if_neg h1] at h; cases h
theorem atI_get {α : Type} {xs : List α} {i : Int} {v : α} (h : atI xs i = some v) : ∃ j, seqIndex? i xs.length = some j ∧ xs[j]? = some v ∧ j < xs.length ∧ -(xs.length : Int) ≤ i ∧ i < xs.length := by
  unfold atI at h
  cases e : ixN xs.length i with
  | none => rw [e] at h; cases h
  | some j =>
    rw [e] at h
    obtain ⟨h1, h2, h3, h4⟩ := ixN_seq e
    exact ⟨j, h1, h, h2, h3, h4⟩
theorem atI_nat {α : Type} {xs : List α} {j : Nat} {v : α} (h : xs[j]? = some v) : atI xs (j : Int) = some v := by
  have hj : j < xs.length := (List.getElem?_eq_some_iff.mp h).1
  have e : ixN xs.length (j : Int) = some j := by
    unfold ixN
    rw [if_pos (by omega), if_pos (by omega)]; simp
  unfold atI; rw [e]; exact h
/-- what stands as an index of a plain subscript -/
def PlainIx (b : Expr) : Prop := ∀ o i, subscripted b false o i = operate [o, i] (getItem o i)
/-- a subscript by values -/
def IxR (X : Cx) (r : R2) : Prop :=
  ∀ (value slice : Expr) (pins : List (Addr × Obj)) (s : Shared) (σ : St) (H : Hp) (x y : V) (v u : Value) (Q : VK), Inv X pins σ H s → RelV x v → RelV y u → r x y H Q →
    subscripted slice false v u = operate [v, u] (getItem v u) → wpAny (model X.prog X.w) X.A (subscriptTail value slice v u) (EP X pins σ Q) X.xe s
/-- a call of a builtin's method by values: the receiver, the arguments -/
def MtR (X : Cx) (id : String) (r : V → List V → Hp → VK → Prop) : Prop :=
  ∀ (pins : List (Addr × Obj)) (s : Shared) (σ : St) (H : Hp) (x : V) (xs : List V) (v : Value) (us : List Value) (Q : VK), Inv X pins σ H s → RelV x v → Vals xs us → r x xs H Q →
    wpAny (model X.prog X.w) X.A (call (.builtin id) (v :: us)) (EP X pins σ Q) X.xe s
section
variable {X : Cx} {a b : Expr} {ta tb : TE} {pos : Pos}
/-- a[b] -/
theorem pe_ix {r : R2} (hr : IxR X r) (ha : PE X a ta) (hb : PE X b tb) (hs : PlainIx b) : PE X (.Subscript a b pos) (tOp r ta tb) := by
  intro pins s σ H Q I h
  exact Subscript_ (binT ha hb I h fun v u s2 x y H2 I2 rx ry q => hr a b pins s2 σ H2 x y v u Q I2 rx ry q (hs _ _))
def rIxL (K : PySem.W.Frag) : R2 := fun x y H Q => ∃ p xs i v, x = .ref p ∧ y = .int i ∧ SqL K H p xs ∧ atI xs i = some v ∧ Q v H
def rIxT (K : PySem.W.Frag) : R2 := fun x y H Q => ∃ p xs i v, x = .ref p ∧ y = .int i ∧ SqT K H p xs ∧ atI xs i = some v ∧ Q v H
def rIxS : R2 := fun x y H Q => ∃ z i c, x = .str z ∧ y = .int i ∧ z.length ≤ sizeLine ∧ atI z.cps.toList i = some c ∧ Q (.str ⟨#[c]⟩) H
theorem ix_list : IxR X (rIxL X.K) := by
  intro value slice pins s σ H x y v u Q I rx ry h hs
  obtain ⟨p, xs, i, z, rfl, rfl, hq, he, q⟩ := h
  cases rx
  obtain ⟨t, rfl⟩ := ry
  obtain ⟨its, r, pl, hz⟩ := I.list hq
  obtain ⟨j, h1, h2, h3, h4, h5⟩ := atI_get he
  obtain ⟨w, ew, rw'⟩ := r.get h2
  have hl := r.length
  have hn := line63
  have fin : EP X pins σ Q w s := ⟨z, H, I, rw', q⟩
  by_cases h0 : 0 ≤ i
  · have hj : i.toNat = j := by
      rw [seqIndex_of h0 h5] at h1
      exact Option.some.inj h1
    exact item_listR pl.isList h0 (by omega) (by rw [hj]; simpa using ew) fin hs
  · have hj : (i + (its.toArray.size : Int)).toNat = j := by
      rw [seqIndex_neg (by omega) h4] at h1
      rw [List.size_toArray, ← hl]
      exact Option.some.inj h1
    exact subscriptTail_builtinR (x := w) pl.isList.typeIs slot_list_getitem.lookup
      (wpAny_getItem_list_neg (Q := fun r s' => r = w ∧ EP X pins σ Q r s') pl.isList (by omega) (by rw [List.size_toArray] <;> omega) (by omega) (by rw [hj]; simpa using ew) ⟨rfl, fin⟩) hs
theorem ix_tup : IxR X (rIxT X.K) := by
  intro value slice pins s σ H x y v u Q I rx ry h hs
  obtain ⟨p, xs, i, z, rfl, rfl, hq, he, q⟩ := h
  cases rx
  obtain ⟨t, rfl⟩ := ry
  obtain ⟨its, r, pl, hz⟩ := I.tuple hq
  obtain ⟨j, h1, h2, h3, h4, h5⟩ := atI_get he
  obtain ⟨w, ew, rw'⟩ := r.get h2
  have hl := r.length
  have hn := line63
  have fin : EP X pins σ Q w s := ⟨z, H, I, rw', q⟩
  exact subscriptTail_builtinR (x := w) pl.typeIs slot_tuple_getitem.lookup
    (getItem_tuple (j := j) (Q := fun r s' => r = w ∧ EP X pins σ Q r s') pl (by omega) (by omega) (by rw [List.size_toArray, ← hl]; exact h1) (by simpa using ew) ⟨rfl, fin⟩) hs
theorem ix_str : IxR X rIxS := by
  intro value slice pins s σ H x y v u Q I rx ry h hs
  obtain ⟨z, i, c, rfl, rfl, hz, he, q⟩ := h
  obtain ⟨t, rfl⟩ := rx
  obtain ⟨t', rfl⟩ := ry
  obtain ⟨j, h1, h2, h3, h4, h5⟩ := atI_get he
  have hl : z.cps.toList.length = z.length := by simp [Str.length]
  rw [hl] at h1 h4 h5
  have hn := line63
  exact tail_any (typeIs_str s z t) slot_str_getitem.lookup (getItem_str (c := c) (by
    have e1 : decide (i < -(2 ^ 63 : Int)) = false := decide_eq_false (by omega)
    have e2 : decide (i ≥ 2 ^ 63) = false := decide_eq_false (by omega)
    rw [e1, e2, Bool.or_false]) (by rw [h1]; simpa using h2) ⟨.str ⟨#[c]⟩, H, I.tok _, ⟨_, rfl⟩, q⟩) hs
theorem slice_bounds (lo hi : Option Int) (n : Nat) : (sliceBounds lo hi none n).1 = ((HT.sIx n 0 lo : Nat) : Int) ∧ (sliceBounds lo hi none n).2.1 = ((HT.sIx n n hi : Nat) : Int) ∧ (sliceBounds lo hi none n).2.2 = 1 := by
  refine ⟨?_, ?_, rfl⟩
  · cases lo with
    | none => simp [sliceBounds, HT.sIx]
    | some i =>
      simp only [sliceBounds, HT.sIx, Option.getD_none, show (1 : Int) > 0 by decide, if_true]
      by_cases h : i < 0
      · simp only [h, if_true] <;> omega
      · simp only [h, if_false] <;> omega
  · cases hi with
    | none => simp [sliceBounds, HT.sIx]
    | some i =>
      simp only [sliceBounds, HT.sIx, Option.getD_none, show (1 : Int) > 0 by decide, if_true]
      by_cases h : i < 0
      · simp only [h, if_true] <;> omega
      · simp only [h, if_false] <;> omega
theorem slicePick_cut (its : List Value) (lo hi : Option Int) : slicePick its.toArray lo hi none = ((its.drop (HT.sIx its.length 0 lo)).take (HT.sIx its.length its.length hi - HT.sIx its.length 0 lo)).toArray := by
  obtain ⟨h1, h2, h3⟩ := slice_bounds lo hi its.toArray.size
  unfold slicePick
  rw [h1, h2, h3]
  simp only [sliceRange_one, pick_run, List.size_toArray] <;> rfl
/-- xs[lo:hi] of a list: a new list -/
def rSlL (K : PySem.W.Frag) : V → Option Int → Option Int → Hp → VK → Prop := fun x lo hi H Q => ∃ a xs, x = .ref a ∧ SqL K H a xs ∧ ∀ p, H p = none → Q (.ref p) (upd H p (.lst (cutV xs lo hi)))
theorem sl_list : SlR X (rSlL X.K) := by
  intro pins s σ H x v vl vu lo hi sl Q I rx hs pl pu h
  obtain ⟨a, xs, rfl, hx, q⟩ := h
  cases rx
  obtain ⟨its, r, ht, hz⟩ := I.list hx
  have hlen := r.length
  refine ⟨"list", _, slot_list_getitem.lookup, ht.isList.typeIs, ?_⟩
  refine wpAny_getItem_list_slice ht.isList hs pl pu .none (by simp) ?_ (by rw [List.size_toArray] <;> omega)
  rw [slicePick_cut, ← hlen]
  refine ⟨.ref s.heap.objs.size, _, I.laid (t' := s.toks) (o := .lst (cutV xs lo hi)) (fun b ob q => Heap.get?_push_of_some _ q) (Nat.le_refl _) ?_, rfl, q _ (I.hok.fresh (Nat.le_refl _))⟩
  exact ⟨Nat.le_trans (cutV_length xs lo hi) hz, _, 0, (r.drop (HT.sIx xs.length 0 lo)).take (HT.sIx xs.length xs.length hi - HT.sIx xs.length 0 lo), Heap.get?_push_size _ rfl⟩
def flatV : V → Bool
  | .non => true
  | .bl _ => true
  | .int _ => true
  | .str _ => true
  | _ => false
/-- == of flat values -/
def eqV : V → V → Bool
  | .non, .non => true
  | .bl a, .bl b => a == b
  | .bl a, .int b => (if a then 1 else 0) == b
  | .int a, .bl b => a == (if b then 1 else 0)
  | .int a, .int b => a == b
  | .str a, .str b => a == b
  | _, _ => false
theorem eqAt_V {A : Around} {s : Shared} {y x : V} {u v : Value} (ry : RelV y u) (rx : RelV x v) (fy : flatV y = true) (fx : flatV x = true) : SeqAt.EqAt A s u v (eqV y x) := by
  cases y with
  | non =>
    cases ry
    cases x with
    | non => cases rx; exact SeqAt.EqAt.same _
    | bl b => cases rx; exact SeqAt.EqAt.none_bool b
    | int b => obtain ⟨t, rfl⟩ := rx; exact SeqAt.EqAt.none_int b t
    | str b => obtain ⟨t, rfl⟩ := rx; exact SeqAt.EqAt.none_str b t
    | _ => exact absurd (show false = true from fx) Bool.false_ne_true
  | bl a =>
    cases ry
    cases x with
    | non => cases rx; exact SeqAt.EqAt.bool_none a
    | bl b => cases rx; exact SeqAt.EqAt.bool_bool a b
    | int b => obtain ⟨t, rfl⟩ := rx; exact SeqAt.EqAt.bool_int a b t
    | str b => obtain ⟨t, rfl⟩ := rx; exact SeqAt.EqAt.bool_str a b t
    | _ => exact absurd (show false = true from fx) Bool.false_ne_true
  | int a =>
    obtain ⟨t', rfl⟩ := ry
    cases x with
    | non => cases rx; exact SeqAt.EqAt.int_none a t'
    | bl b => cases rx; exact SeqAt.EqAt.int_bool a t' b
    | int b => obtain ⟨t, rfl⟩ := rx; exact SeqAt.EqAt.int_int a t' b t
    | str b => obtain ⟨t, rfl⟩ := rx; exact SeqAt.EqAt.int_str a t' b t
    | _ => exact absurd (show false = true from fx) Bool.false_ne_true
  | str a =>
    obtain ⟨t', rfl⟩ := ry
    cases x with
    | non => cases rx; exact SeqAt.EqAt.str_none a t'
    | bl b => cases rx; exact SeqAt.EqAt.str_bool a t' b
    | int b => obtain ⟨t, rfl⟩ := rx; exact SeqAt.EqAt.str_int a t' b t
    | str b => obtain ⟨t, rfl⟩ := rx; exact SeqAt.EqAt.str_str a t' b t
    | _ => exact absurd (show false = true from fx) Bool.false_ne_true
  | _ => exact absurd (show false = true from fy) Bool.false_ne_true
/-- the items' answers, read off the values (a value's own answer does not lean on its token) -/
def eqU (x : V) (u : Value) : Bool := match u with
  | .none => eqV .non x
  | .bool b => eqV (.bl b) x
  | .int i _ => eqV (.int i) x
  | .str z _ => eqV (.str z) x
  | _ => false
theorem eqU_of {x y : V} {u : Value} (r : RelV y u) (f : flatV y = true) : eqU x u = eqV y x := by
  cases y with
  | non => cases r; rfl
  | bl b => cases r; rfl
  | int i => obtain ⟨t, rfl⟩ := r; rfl
  | str z => obtain ⟨t, rfl⟩ := r; rfl
  | _ => exact absurd (show false = true from f) Bool.false_ne_true
theorem any_eqU {x : V} : ∀ {xs : List V} {us : List Value}, Vals xs us → xs.all flatV = true → us.any (eqU x) = xs.any fun y => eqV y x
  | _, _, .nil, _ => rfl
  | y :: xs, u :: us, .cons r t, f => by
    rw [List.all_cons, Bool.and_eq_true] at f
    rw [List.any_cons, List.any_cons, eqU_of r f.1, any_eqU t f.2]
theorem mem_eqAt {A : Around} {s : Shared} {x : V} {v : Value} (rx : RelV x v) (fx : flatV x = true) : ∀ {xs : List V} {us : List Value}, Vals xs us → xs.all flatV = true → ∀ u ∈ us, SeqAt.EqAt A s u v (eqU x u)
  | _, _, .nil, _ => fun u hu => by cases hu
  | y :: xs, u :: us, .cons r t, f => fun u' hu => by
    rw [List.all_cons, Bool.and_eq_true] at f
    rcases List.mem_cons.mp hu with rfl | hu
    · rw [eqU_of r f.1]; exact eqAt_V r rx f.1 fx
    · exact mem_eqAt rx fx t f.2 u' hu
def inV (x : V) (xs : List V) : Bool := xs.any fun y => eqV y x
/-- x in a list or tuple of flat items -/
def rIn (K : PySem.W.Frag) (neg : Bool) : R2 := fun x y H Q => ∃ p xs, y = .ref p ∧ (SqL K H p xs ∨ SqT K H p xs) ∧ flatV x = true ∧ xs.all flatV = true ∧ Q (.bl (if neg then !inV x xs else inV x xs)) H
theorem op_in_seq : OpR X (compareOp .In) (rIn X.K false) := by
  intro pins s σ H x y v u Q I rx ry h
  obtain ⟨p, xs, rfl, hq, fx, fs, q⟩ := h
  cases ry
  rcases hq with hq | hq
  · obtain ⟨its, r, pl, hz⟩ := I.list hq
    refine SeqAt.in_listAt (eqU x) pl.isList (fun w hw => mem_eqAt rx fx r fs w (by simpa using hw)) ⟨.bl _, H, I, rfl, ?_⟩
    rw [show its.toArray.any (eqU x) = its.any (eqU x) by simp, any_eqU r fs]
    exact q
  · obtain ⟨its, r, pl, hz⟩ := I.tuple hq
    refine SeqAt.in_tupleAt (eqU x) pl (fun w hw => mem_eqAt rx fx r fs w (by simpa using hw)) ⟨.bl _, H, I, rfl, ?_⟩
    rw [show its.toArray.any (eqU x) = its.any (eqU x) by simp, any_eqU r fs]
    exact q
theorem op_notIn_str : OpR X (compareOp .NotIn) (fun x y H Q => ∃ i j, x = .str i ∧ y = .str j ∧ Q (.bl (!(!(Builtin.Str.occurrences j i 0 j.length 1).isEmpty))) H) := by
  intro pins s σ H x y v u Q I rx ry h
  obtain ⟨i, j, rfl, rfl, q⟩ := h
  obtain ⟨t, rfl⟩ := rx
  obtain ⟨t', rfl⟩ := ry
  exact notIn_str ⟨.bl _, H, I, rfl, q⟩
theorem call_len_seq : CallR X (.builtin "len") (fun xs H Q => ∃ p ys, xs = [.ref p] ∧ (SqL X.K H p ys ∨ SqT X.K H p ys) ∧ Q (.int ys.length) H) := by
  intro pins s σ H xs us Q I r h
  obtain ⟨p, ys, rfl, hq, q⟩ := h
  obtain ⟨u, rfl, rx⟩ := vals1 r
  cases rx
  have hn := line63
  rcases hq with hq | hq
  · obtain ⟨its, r', pl, hz⟩ := I.list hq
    have hlen := r'.length
    exact Calls.call_len_list pl.isList (by simp only [List.size_toArray] <;> omega) ⟨.int ys.length, H, I.tok _, ⟨s.toks + 1, by rw [List.size_toArray, hlen]⟩, q⟩
  · obtain ⟨its, r', pl, hz⟩ := I.tuple hq
    have hlen := r'.length
    exact len_tuple pl (by simp only [List.size_toArray] <;> omega) ⟨.int ys.length, H, I.tok _, ⟨s.toks + 1, by rw [List.size_toArray, hlen]⟩, q⟩
theorem call_len_str : CallR X (.builtin "len") (fun xs H Q => ∃ z, xs = [.str z] ∧ z.length ≤ sizeLine ∧ Q (.int z.length) H) := by
  intro pins s σ H xs us Q I r h
  obtain ⟨z, rfl, hz, q⟩ := h
  obtain ⟨u, rfl, t, rfl⟩ := vals1 r
  have hn := line63
  exact len_str (by omega) ⟨.int z.length, H, I.tok _, ⟨_, rfl⟩, q⟩
theorem call_list_of : CallR X (.type "list") (fun xs H Q => ∃ p ys, xs = [.ref p] ∧ (SqL X.K H p ys ∨ SqT X.K H p ys) ∧ ∀ l, H l = none → Q (.ref l) (upd H l (.lst ys))) := by
  intro pins s σ H xs us Q I r h
  obtain ⟨p, ys, rfl, hq, q⟩ := h
  obtain ⟨u, rfl, rx⟩ := vals1 r
  cases rx
  have fin : ∀ (its : List Value), Vals ys its → ys.length ≤ sizeLine → ∀ (h' : Heap) (c' : Nat), (∀ b o', s.heap.get? b = some o' → h'.get? b = some o') →
      h'.get? s.heap.objs.size = some { cls := .type "list", dict := none, data := .seq its.toArray c', slots := #[] } → EP X pins σ Q (.ref s.heap.objs.size) { s with heap := h' } := fun its r' hz h' c' kp e =>
    ⟨.ref s.heap.objs.size, _, I.laid (t' := s.toks) kp (Nat.le_refl _) (show ObjOk X.prog X.w _ h' _ (.lst ys) from ⟨hz, its, c', r', e⟩), rfl, q _ (I.hok.fresh (Nat.le_refl _))⟩
  rcases hq with hq | hq
  · obtain ⟨its, r', pl, hz⟩ := I.list hq
    have hlen := r'.length
    obtain ⟨o, ho, hc, n, hd⟩ := pl.isList
    exact call_list_seq p (.inl rfl) ho hc hd (fun h' c' kp e => fin its r' hz h' c' kp e) (by simp only [List.size_toArray] <;> omega)
  · obtain ⟨its, r', pl, hz⟩ := I.tuple hq
    have hlen := r'.length
    obtain ⟨o, ho, hc, n, hd⟩ := pl
    exact call_list_seq p (.inr rfl) ho hc hd (fun h' c' kp e => fin its r' hz h' c' kp e) (by simp only [List.size_toArray] <;> omega)
theorem call_tuple_of : CallR X (.type "tuple") (fun xs H Q => ∃ p ys, xs = [.ref p] ∧ ((SqL X.K H p ys ∧ ∀ l, H l = none → Q (.ref l) (upd H l (.tup ys))) ∨ (SqT X.K H p ys ∧ Q (.ref p) H))) := by
  intro pins s σ H xs us Q I r h
  obtain ⟨p, ys, rfl, h⟩ := h
  obtain ⟨u, rfl, rx⟩ := vals1 r
  cases rx
  rcases h with ⟨hq, q⟩ | ⟨hq, q⟩
  · obtain ⟨its, r', pl, hz⟩ := I.list hq
    have hlen := r'.length
    refine call_tuple_list pl.isList (fun h' kp => ?_) (by simp only [List.size_toArray] <;> omega)
    have I1 : Inv X pins σ H { s with heap := h' } := I.kept (t' := s.toks) kp
    have I2 : Inv X pins σ (upd H h'.objs.size (.tup ys)) { s with heap := h'.push { cls := .type "tuple", data := .seq its.toArray } } :=
      I1.laid (t' := s.toks) (fun b o e => Heap.get?_push_of_some _ e) (Nat.le_refl _) (show ObjOk X.prog X.w _ _ _ (.tup ys) from ⟨hz, its, r', IsTup.new _ _⟩)
    exact ⟨.ref h'.objs.size, _, I2, rfl, q _ (I1.hok.fresh (Nat.le_refl _))⟩
  · obtain ⟨its, r', pl, hz⟩ := I.tuple hq
    exact call_tuple_same pl ⟨.ref p, H, I, rfl, q⟩
/-- the value is of that builtin type -/
def tyV (K : PySem.W.Frag) (T : String) (x : V) (H : Hp) : Prop := match x with
  | .str _ => T = "str"
  | .int _ => T = "int"
  | .ref p => (T = "list" ∧ ∃ xs, SqL K H p xs) ∨ (T = "tuple" ∧ ∃ o, K.lookup p = some o ∧ o.cls = .type "tuple" ∧ o.dict = none) ∨
      (T = "dict" ∧ ((∃ kvs, H p = some (.dK kvs)) ∨ ∃ kvs, H p = some (.dT kvs))) ∨ (T = "set" ∧ ∃ S n, H p = some (.set S n))
  | _ => False
theorem tyV_is {pins : List (Addr × Obj)} {σ : St} {H : Hp} {s : Shared} {T : String} {x : V} {v : Value} (I : Inv X pins σ H s) (r : RelV x v) (ty : tyV X.K T x H) :
    s.TypeIs v T ∧ ∀ a, v = .ref a → ∃ ob, s.heap.get? a = some ob ∧ ob.dict = none := by
  cases x with
  | str z =>
    obtain ⟨t, rfl⟩ := r
    cases (show T = "str" from ty)
    exact ⟨typeIs_str s z t, fun _ e => nomatch e⟩
  | int i =>
    obtain ⟨t, rfl⟩ := r
    cases (show T = "int" from ty)
    exact ⟨typeIs_int s i t, fun _ e => nomatch e⟩
  | ref p =>
    cases r
    rcases ty with ⟨rfl, xs, hq⟩ | ⟨rfl, o, hk, hc, hd⟩ | ⟨rfl, hk⟩ | ⟨rfl, S, n, hk⟩
    · obtain ⟨its, _, pl, _⟩ := I.list hq
      refine ⟨pl.isList.typeIs, fun a e => ?_⟩
      cases e
      obtain ⟨o, n, e, c, hd, _⟩ := pl
      exact ⟨o, e, hd⟩
    · refine ⟨⟨o, I.kIn p o hk, hc⟩, fun a e => ?_⟩
      cases e
      exact ⟨o, I.kIn _ o hk, hd⟩
    · have z : ∃ o, s.heap.get? p = some o ∧ o.ExactDict := by
        rcases hk with ⟨kvs, hk⟩ | ⟨kvs, hk⟩
        · obtain ⟨_, _, _, _, o, _, _, e, ex, _⟩ := I.hok p _ hk
          exact ⟨o, e, ex⟩
        · obtain ⟨_, _, _, _, o, _, _, e, ex, _⟩ := I.hok p _ hk
          exact ⟨o, e, ex⟩
      obtain ⟨o, e, ex⟩ := z
      refine ⟨⟨o, e, ex.1⟩, fun a e2 => ?_⟩
      cases e2
      exact ⟨o, e, ex.2.1⟩
    · obtain ⟨o, _, _, _, e, ex, _⟩ := I.hok p _ hk
      refine ⟨⟨o, e, ex.1⟩, fun a e2 => ?_⟩
      cases e2
      exact ⟨o, e, ex.2.1⟩
  | _ => exact False.elim ty
def tBM (K : PySem.W.Frag) (T : String) (r : V → List V → Hp → VK → Prop) (to : TE) (t : TA) : TE := fun σ H Q => to σ H fun x H1 => tyV K T x H1 ∧ t σ H1 fun xs H2 => r x xs H2 Q
variable {o e : Expr} {es : List Expr} {to : TE} {t : TA} {name : Str} {apos cpos : Pos} {T id : String} {r : V → List V → Hp → VK → Prop}
theorem pe_bm (pa : PlainAttrs T) (slot : Slot T name id) (hty : typeOf (.builtin id) = pure (.type "method_descriptor")) (hm : MtR X id r) (ho : PE X o to) (ha : PA X (e :: es) t)
    (hbase : attributeBase o name X.env (eval o X.env) = eval o X.env := by rfl)
    (hfew : ((backTo cpos (starEach (e :: es) X.env)).all (fun x => !x.1) && (backToKw cpos (keywordEach [] X.env)).all (fun x => x.1.isSome)
      && decide ((e :: es).length + ([] : List Keyword).length + (if ([] : List Keyword).isEmpty then 0 else 1) < 30)) = true := by rfl)
    (hline : (apos.endLine == cpos.line) = true := by rfl) (hs : starEach (e :: es) X.env = (false, eval e X.env) :: starEach es X.env := by rfl) (hplain : (backTo cpos (starEach es X.env)).any (·.1) = false := by rfl) :
    PE X (.Call (.Attribute o name apos) (e :: es) [] cpos) (tBM X.K T r to t) := by
  intro pins s σ H Q I h
  refine wpAny_Call_method_late hbase hfew hline rfl (thn (ho pins s σ H _ I h) fun v s1 ⟨x, H1, I1, r1, ty, q1⟩ => ?_)
  obtain ⟨h1, h2⟩ := tyV_is I1 r1 ty
  refine ⟨T, id, pa, slot, hty, h1, h2, ?_⟩
  have hA := ha cpos pins s1 σ H1 _ I1 q1
  rw [hs] at hA ⊢
  refine Calls.callWith_builtin (by show (false || (backTo cpos (starEach es X.env)).any (·.1)) = false; rw [hplain] <;> rfl) (Calls.evalArgs_plain ?_)
  exact thn hA fun us s2 ⟨vs, H2, I2, r2, q2⟩ => hm pins s2 σ H2 x vs v us Q I2 r1 r2 q2
/- xs.append(e), list.index on a module's tuple .. are MtR facts of 06m -/
end
end L2
namespace L2
open PySem PySem.Spec PyProof.Rows
def MtM (X : Cx) (id : String) (r : V → List V → Hp → VK → Prop) : Prop :=
  ∀ (pins : List (Addr × Obj)) (s : Shared) (σ : St) (H : Hp) (x : V) (xs : List V) (v : Value) (us : List Value) (Q : VK), Inv X pins σ H s → RelV x v → Vals xs us → r x xs H Q →
    wpAny (model X.prog X.w) X.A (call (.builtin id) (v :: us)) (EP X pins σ Q) X.xe s
theorem Vals.one : ∀ {x : V} {us : List Value}, Vals [x] us → ∃ u, us = [u] ∧ RelV x u
  | _, _, .cons r .nil => ⟨_, rfl, r⟩
section
variable {X : Cx} {pins : List (Addr × Obj)} {σ : St} {H : Hp} {s : Shared} {l b : Addr} {xs ys zs : List V}
theorem Inv.lset {its its' : List Value} {n : Nat} {f : Array Value → Array Value} {t' : Nat} (I : Inv X pins σ H s) (hH : H l = some (.lst xs))
    (e : s.heap.get? l = some { cls := .type "list", data := .seq its.toArray n }) (hf : f its.toArray = its'.toArray) (hv : Vals ys its') (hz : ys.length ≤ sizeLine) :
    Inv X pins σ (upd H l (.lst ys)) { s with heap := s.heap.update l (Obj.mapSeq f), toks := t' } := by
  have q := PySem.IsL.update e f
  rw [hf] at q
  refine I.write (x := l) (e := l) (by rw [hH]; exact trivial) (.inl rfl) (fun b' u hb hu => (Heap.get?_update_other s.heap (Obj.mapSeq f) (Ne.symm hb)).trans hu) ⟨_, q⟩ ?_
  exact ⟨hz, its', _, hv, q⟩
theorem Inv.lnew {its : List Value} {t' : Nat} (I : Inv X pins σ H s) (hv : Vals ys its) (hz : ys.length ≤ sizeLine) :
    Inv X pins σ (upd H s.heap.objs.size (.lst ys)) { s with heap := s.heap.push { cls := .type "list", data := .seq its.toArray }, toks := t' } :=
  I.laid (fun _ _ q => Heap.get?_push_of_some _ q) (Nat.le_refl _) ⟨hz, its, 0, hv, Heap.get?_push_size _ rfl⟩
theorem Inv.fresh (I : Inv X pins σ H s) : H s.heap.objs.size = none := I.hok.fresh (Nat.le_refl _)
theorem Inv.lstM (I : Inv X pins σ H s) (hH : H l = some (.lst xs)) : xs.length ≤ sizeLine ∧ ∃ (its : List Value) (n : Nat), Vals xs its ∧ xs.length = its.length ∧ s.heap.get? l = some { cls := .type "list", data := .seq its.toArray n } := by
  obtain ⟨z, its, n, r, e⟩ := I.hok l _ hH
  exact ⟨z, its, n, r, r.length, e⟩
end
section
variable {X : Cx}
def rAppend : V → List V → Hp → VK → Prop := fun x vs H Q => ∃ l xs y, x = .ref l ∧ vs = [y] ∧ H l = some (.lst xs) ∧ xs.length < sizeLine ∧ Q .non (upd H l (.lst (xs ++ [y])))
theorem mt_append : MtM X "list.append" rAppend := by
  intro pins s σ H x vs v us Q I rx rv h
  obtain ⟨l, xs, y, rfl, rfl, hH, hz, q⟩ := h
  cases rx
  obtain ⟨u, rfl, ru⟩ := rv.one
  obtain ⟨z, its, n, r, hl, e⟩ := I.lstM hH
  refine call_meets F.slot_list_append ⟨_, e, rfl⟩ F.entry_list_append (F.args_list_append_2 _ _) (PySem.list_append l its.toArray n u (by rw [List.size_toArray]; omega)) ⟨e, ?_⟩
  refine ⟨.non, _, I.lset (its' := its ++ [u]) hH e (by simp) (r.append (.cons ru .nil)) ?_, rfl, q⟩
  rw [List.length_append, List.length_singleton]
  omega
def rCat : R2 := fun x y H Q => ∃ l b xs zs, x = .ref l ∧ y = .ref b ∧ H l = some (.lst xs) ∧ H b = some (.lst zs) ∧ xs.length + zs.length ≤ sizeLine ∧ ∀ p, H p = none → Q (.ref p) (upd H p (.lst (xs ++ zs)))
theorem op_cat : OpR X (binaryOp .Add) rCat := by
  intro pins s σ H x y v u Q I rx ry h
  obtain ⟨l, b, xs, zs, rfl, rfl, hH, hB, hz, q⟩ := h
  cases rx
  cases ry
  obtain ⟨z, its, n, r, hl, e⟩ := I.lstM hH
  obtain ⟨z2, its2, n2, r2, hl2, e2⟩ := I.lstM hB
  refine PySem.P.add_list e e2 ?_ (by rw [List.size_toArray, List.size_toArray]; omega)
  have ea : its.toArray ++ its2.toArray = (its ++ its2).toArray := by simp
  rw [ea]
  exact ⟨.ref _, _, I.lnew (t' := s.toks) (r.append r2) (by rw [List.length_append]; omega), rfl, q _ I.fresh⟩
end
section
variable {prog : Program} {w : World} {A : Around} {E : Value → Shared → Prop} {s : Shared}
set_option maxRecDepth 100000 in
end
section
variable {X : Cx}
end
end L2
namespace Att
open PySem PySem.W PySem.Calls PyProof.Rows
theorem ints_of_wellAll {P : Params} {h : Heap} : ∀ (ns : List Int) (vs : List Value), WellAll P h vs (ns.map WData.int) → IntsAre vs ns := by
  intro ns
  induction ns with
  | nil =>
    intro vs w
    rw [List.map_nil] at w
    cases w
    exact .nil
  | cons n ns ih =>
    intro vs w
    rw [List.map_cons] at w
    cases w with
    | cons a b =>
      cases a
      exact .cons _ _ (ih _ b)
theorem script_of {l : OpenLaw} {n : Nat} (hn : l.most = some n) {P : Params} {h : Heap} {args : List WData} {vals : List Value}
    (hpre : l.row.toRowW.claim.pre args = true) (hwl : WellAll P h vals args) :
    ∃ a vs ns, vals = [Value.ref a] ∧ args = [WData.list (ns.map WData.int)] ∧ h.get? a = some { cls := .type "list", data := .seq vs.toArray } ∧ IntsAre vs ns ∧ ns.length ≤ n := by
  have hsh : WShape.hasAll [] args [.list .int] = true := (pre_splitW hpre).1
  have hc : l.pre.holds [] { args := args } = true := (pre_splitW hpre).2
  obtain ⟨d, r, rfl, h1, h2⟩ := hasAllW_cons hsh
  obtain rfl := hasAllW_nil h2
  obtain ⟨xs, rfl, h3⟩ := hasW_list h1
  obtain ⟨ns, rfl⟩ := items_int h3
  have hlen : ns.length ≤ n := by
    unfold OpenLaw.pre at hc
    have h4 : (WTm.not (.lt (.lit (.int (n : Int))) (.len (.arg 0)))).holds [] { args := [.list (ns.map .int)] } = true := by
      have h4 := (holds_andW hc).1
      rw [hn] at h4
      exact h4
    have h5 := condW_of h4 (w_not (w_lt w_lit (w_len_list (w_arg rfl))))
    rw [List.length_map] at h5
    refine Nat.le_of_not_lt fun q => ?_
    have q' : (n : Int) < ((ns.length : Nat) : Int) := by omega
    first
      | (rw [decide_eq_true q'] at h5; exact absurd h5 (by decide))
      | (simp at h5; omega)
  cases hwl with
  | cons w1 w2 =>
    cases w2
    cases w1 with
    | list ho hall => exact ⟨_, _, ns, rfl, rfl, ho, ints_of_wellAll ns _ hall, hlen⟩
theorem post_true (l : OpenLaw) (args : List WData) : l.row.toRowW.claim.post args (.bool true) args = true :=
  postW_of (r := l.row.toRowW) (X := (true == true))
    (show WShape.has [] (.bool true) .bool = true by first | rfl | decide | simp [WShape.has, WShape.arms, WShape.armsAll])
    (show (WTm.eq .res (.lit (.bool true))).value [] { args := args, res := some (.bool true), after := args } = some (.bool (true == true)) from w_eq_bool (w_res rfl) w_lit) rfl
/-- the same from a codeAny of the CALL (for a layer whose function contracts speak of calls) -/
theorem attach_call {l : OpenLaw} {n : Nat} {q : Program} {loose : List Str} {XP : (Str → Option Value) → Heap → Prop} {YP : World → Heap → Prop} {d : DefRec}
    (hn : l.most = some n) (hdf : d.params.defaults = [])
    (call : ∀ (w : World) (s₀ s₁ : Shared) (mg mb : Str → Option Value) (fa : Addr) (o : Obj) (pm cd doc : Value) (a : Addr) (vs : List Value) (ns : List Int),
      Ground q loose [] XP w s₀ mg mb s₁.heap → YP w s₁.heap →
      s₁.heap.get? fa = some o → o.data = .func (docDef d.name d.params d.body d.scope pm cd doc) → s₁.heap.CodeRec cd d.name → mg d.name = some (.ref fa) →
      s₁.heap.get? a = some { cls := .type "list", data := .seq vs.toArray } → IntsAre vs ns → ns.length ≤ n → s₁.gens = #[] →
      codeAny (model l.prog w) callerA (.call (.ref fa) ⟨[.ref a], []⟩) (fun r s' => r = .ok (.ret (.bool true)) ∧ OldK s₁.heap s'.heap ∧ s'.os = s₁.os ∧ AllBare s'.gens) s₁) :
    WalkO q loose XP YP l.row.toRowW d [] (fun f vs => PySem.call f vs) := by
  intro w s₀ s₁ mg mb G Y fa o pm cd doc dV kV ho hd hcd hD hmg hg args vals as hpre hlay hrd hwl hlo
  obtain rfl : dV = .none := Dflts.none hD hdf
  obtain rfl : kV = .none := Dflts.noKw hD
  obtain ⟨a, vs, ns, rfl, rfl, hobj, hints, hlen⟩ := script_of hn hpre hwl
  refine enter_call (codeAny_mono (call w s₀ s₁ mg mb fa o pm cd doc a vs ns G Y ho (fd_plain hd) hcd hmg hobj hints hlen hg) fun r s' hq => ?_)
  obtain ⟨rfl, h2, h3, h4⟩ := hq
  exact ⟨.inl ⟨.bool true, .bool true, [], rfl, fun _ => rfl, .bool true, post_true l _, fun _ => ⟨List.Pairwise.nil, fun _ hm => (nomatch hm)⟩⟩, h2, h3, h4⟩
section
variable {prog : Program} {w : World} {A : Around} {E : Value → Shared → Prop} {s : Shared} {K : Frag}
end
end Att
namespace L2
open PySem PySem.Spec PyProof.Rows
theorem vals_ints : ∀ {vs : List Value} {ns : List Int}, IntsAre vs ns → Vals (ns.map V.int) vs
  | _, _, .nil => .nil
  | _, _, .cons n t h => .cons ⟨t, rfl⟩ (vals_ints h)
/-- nothing is tracked but the script, known to the object (or it is an object of the module) -/
def Only (H : Hp) : Prop := ∀ b, H b = none ∨ ∃ o xs, H b = some (.frz o (.lst xs))
/-- THE HEAD: the law's promise, at the heap behind the top. F, the promise of the law's def, may use that base is part of the heap (so K.In base, base.Ns mainGlobals mg stand in Mod) -/
theorem law_call {P : Program} {w : World} {K : PySem.W.Frag} {mg mb : Str → Option Value} {CX : CXT} {k : Nat} {fa a : Addr} {fd : FuncData} {x : Str} {sp : Sp} {s₁ : Shared} {vs : List Value} {ns : List Int}
    (KX : K.In s₁.heap) (hns : s₁.heap.Ns mainGlobals mg) (hb : s₁.heap.Ns builtinsNs mb) (hbb : ∀ x : Str, x ≠ "__name__" → mb x = bootBuiltins x) (hlim : s₁.heap.NoLimit) (hg : s₁.gens = #[])
    (ha : s₁.heap.get? a = some { cls := .type "list", data := .seq vs.toArray }) (hi : IntsAre vs ns) (hl : ns.length ≤ sizeLine) (hr : Room k callerA)
    (F : ∀ base : Heap, K.In base → base.Ns mainGlobals mg → FnOk P w K mg base CX k fa fd [x] sp) (hbind : ∀ (s : Shared) (u : Value), BindsTo s fd ⟨[u], []⟩ [(x, u)])
    (hsp : ∀ H : Hp, Only H → SqL K H a (ns.map V.int) → sp [.ref a] H (fun v _ => v = .bl true) fun _ _ _ => False)
    (hCX : ∀ H e s', CX [] H s₁ (fun _ _ _ => False) e s' → False) :
    codeAny (model P w) callerA (.call (.ref fa) ⟨[.ref a], []⟩) (fun r s' => r = .ok (.ret (.bool true)) ∧ OldK s₁.heap s'.heap ∧ s'.os = s₁.os ∧ AllBare s'.gens) s₁ := by
  have rv := vals_ints hi
  have lenV := hi.length
  -- from an abstract heap in which nothing but the script may be tracked
  have core : ∀ H : Hp, Only H → SqL K H a (ns.map V.int) → HOk P w H s₁.heap → (∀ b, H b ≠ none → b = a) → (H a ≠ none → K.lookup a = none) →
      codeAny (model P w) callerA (.call (.ref fa) ⟨[.ref a], []⟩) (fun r s' => r = .ok (.ret (.bool true)) ∧ OldK s₁.heap s'.heap ∧ s'.os = s₁.os ∧ AllBare s'.gens) s₁ := by
    intro H hO hS hok hA hK
    have base_of : ∀ {b : Addr} {o : Obj}, s₁.heap.get? b = some o → H b = none → (hidT s₁.heap H).get? b = some o := fun e n => hidT_get e n
    have noA : ∀ {b : Addr} {o : Obj} {es : Array DictEntry} {ep : Nat}, s₁.heap.get? b = some o → o.data = .dict es ep → H b = none := fun {b o es ep} e d => by
      cases q : H b with
      | none => rfl
      | some u =>
        have e' : b = a := hA b (by rw [q]; simp)
        subst e'
        rw [ha] at e; cases e
        have d' : Data.seq vs.toArray _ = Data.dict es ep := d
        cases d'
    have nsK : ∀ {b : Addr} {m : Str → Option Value}, s₁.heap.Ns b m → (hidT s₁.heap H).Ns b m := fun {b m} ⟨o, es, ep, e, d, r⟩ => ⟨o, es, ep, base_of e (noA e d), d, r⟩
    have hKb : K.In (hidT s₁.heap H) := fun b o e => base_of (KX b o e) (by
      cases q : H b with
      | none => rfl
      | some u =>
        have e' : b = a := hA b (by rw [q]; simp)
        subst e'
        rw [hK (by rw [q]; simp)] at e; cases e)
    have hM : Mod K mg (hidT s₁.heap H) := ⟨hKb, nsK hns, ⟨mb, nsK hb, hbb⟩, let ⟨mc, h1, h2⟩ := hlim; ⟨mc, nsK h1, h2⟩⟩
    have e0 : Env0 P w K mg (hidT s₁.heap H) callerA [] s₁ H := ⟨rfl, hM, fun b o e => of_hidT e, Nat.le_of_eq (hidT_size _ _), trivial, fun b hb => absurd (show b ∈ ([] : List Addr) from hb) (by simp), hok, .of_eq hg⟩
    refine codeAny_mono ((F _ hKb (nsK hns)).run callerA [] s₁ H ⟨[.ref a], []⟩ [.ref a] [.ref a] _ _ hr e0 (hbind s₁ (.ref a)) (.cons rfl .nil) (hsp H hO hS)) fun r s' h => ?_
    cases r with
    | error e => exact (hCX H e s' h).elim
    | ok fl =>
      cases fl with
      | next => exact False.elim h
      | brk => exact False.elim h
      | cont => exact False.elim h
      | ret u =>
        obtain ⟨v, H', os, bare, un, hok', r', q⟩ := h
        have q' : v = .bl true := q
        subst q'
        obtain rfl : u = Value.bool true := r'
        refine ⟨rfl, OldK.of_keep fun b o e => ?_, os, bare⟩
        cases q : H b with
        | none => exact un.keep b o e q (by intro z; exact absurd (show b ∈ ([] : List Addr) from z) (by simp)) (by simp)
        | some u =>
          rcases hO b with z | ⟨ob, xs, z⟩
          · rw [q] at z; cases z
          · have z2 := un.frzs b ob _ z
            obtain ⟨e1, _⟩ := hok b _ z
            obtain ⟨e2, _⟩ := hok' b _ z2
            rw [e] at e1; cases e1
            exact e2
  cases hk : K.lookup a with
  | some o =>
    -- the script is one of the module's own objects
    have e := KX a o hk
    rw [ha] at e
    cases e
    refine core (fun _ => none) (fun _ => .inl rfl) (.inr ⟨_, vs.toArray, _, hk, rfl, rfl, rfl, by rw [List.size_toArray, lenV]; exact hl, by simpa using rv⟩) (fun b u z => by have z' : (none : Option HO) = some u := z; cases z') (fun b z => absurd rfl z) fun z => absurd rfl z
  | none =>
    refine core (fun b => if b = a then some (.frz { cls := .type "list", data := .seq vs.toArray } (.lst (ns.map V.int))) else none) (fun b => ?_) (.inl (.inr ⟨{ cls := .type "list", data := .seq vs.toArray }, if_pos rfl⟩)) (fun b u z => ?_) (fun b z => ?_) fun _ => hk
    · by_cases hb : b = a
      · exact .inr ⟨_, _, if_pos hb⟩
      · exact .inl (if_neg hb)
    · by_cases hb : b = a
      · have z' := (if_pos hb).symm.trans z
        cases z'
        subst hb
        exact ⟨ha, by rw [List.length_map]; exact hl, vs, _, rv, ha⟩
      · have z' := (if_neg hb).symm.trans z
        cases z'
    · by_cases hb : b = a
      · exact hb
      · exact absurd (if_neg hb) z
end L2
namespace L2
open PySem PySem.Spec PyProof.Rows
/-- the goal that k_head leaves (case hc), from the law's promise. F gives the function object fd (K's own) once, then the promise over every base -/
theorem walk_of {l : PySem.W.OpenLaw} {n k : Nat} {q : Program} {loose : List Str} {XP : (Str → Option Value) → Heap → Prop} {YP : World → Heap → Prop} {d : DefRec} {K : Params → PySem.W.Frag} {CX : World → CXT} {sp : World → Sp} {x : Str}
    (hn : l.most = some n) (hn2 : n ≤ sizeLine) (hdf : d.params.defaults = []) (hr : Room k callerA)
    (hY : ∀ (w : World) (h : Heap), YP w h → (K w.params).In h)
    (F : ∀ (w : World) (mg : Str → Option Value) (fa : Addr) (h : Heap), (K w.params).In h → h.Ns mainGlobals mg → mg d.name = some (.ref fa) →
      ∃ fd : FuncData, (∀ (s : Shared) (u : Value), BindsTo s fd ⟨[u], []⟩ [(x, u)]) ∧
        ∀ base : Heap, (K w.params).In base → base.Ns mainGlobals mg → FnOk l.prog w (K w.params) mg base (CX w) k fa fd [x] (sp w))
    (hsp : ∀ (w : World) (H : Hp) (a : Addr) (ns : List Int), ns.length ≤ n → Only H → SqL (K w.params) H a (ns.map V.int) → sp w [.ref a] H (fun v _ => v = .bl true) fun _ _ _ => False)
    (hCX : ∀ (w : World) (H : Hp) (s : Shared) (e : Value) (s' : Shared), CX w [] H s (fun _ _ _ => False) e s' → False) :
    PySem.W.WalkO q loose XP YP l.row.toRowW d [] (fun f vs => PySem.call f vs) := by
  refine Att.attach_call hn hdf fun w s₀ s₁ mg mb fa o pm cd doc a vs ns G Y ho hd hcd hmg hobj hints hlen hg => ?_
  have KX := hY w _ Y
  obtain ⟨fd, hb, hF⟩ := F w mg fa _ KX G.T.g hmg
  exact law_call KX G.T.g G.T.b G.T.builtins G.T.nolimit hg hobj hints (Nat.le_trans hlen hn2) hr hF hb (fun H hO hS => hsp w H a ns hlen hO hS) fun H e s' => hCX w H s₁ e s'
end L2
/- THE LAST THEOREM (shape; LID, My.* are yours):
   My.Adr: a structure of the addresses that your layer names (classes, functions); My.Txt K t: a structure (Prop) of the equations over K;
   My.txt_mk : {K} {implicit addresses ..} (e1 : nsIn K mainGlobals "law" = some (some (.ref f))) (e2 : K.lookup f = some ⟨oc, od, .func (fnOf "law" "law" params body scope dV kV doc pm an cdv ct), sl⟩) (e3 : codeIn K cdv "law" = true) .. : ∃ t, My.Txt K t
set_option maxRecDepth 100000 in
set_option maxHeartbeats 0 in
theorem PySem.Challenge.cw_LID_holds : PySem.Challenge.rw_LID.Holds := by
  w_on; o_law; k_head; (case hw => w_witness2)
  k_fill
  refine L2.walk_of (l := PySem.Challenge.rw_LID) (n := 63) (k := 40) (x := "script") (CX := fun w => ..) (sp := fun _ => My.sp_law) rfl (by decide) rfl ⟨rfl, by decide, by decide⟩ (fun w h Y => PySem.W.kIn_of Y) ?F ?S ?C
  case F =>
    intro w mg fa h KX G hmg
    have T : ∃ t, My.Txt (L2.KOf KX) t := by
      dsimp only [L2.KOf]                          -- K must stand as «<heap const> w.params» for k_is
      refine' My.txt_mk ?e1 ?e2 ?e3 ..
      (case e1 => PySem.W.k_is)                    -- in the order: a name -> its address -> its object -> its parts
      (case e2 => PySem.W.k_is)
      ..
    obtain ⟨t, T⟩ := T
    have e0 := hmg.symm.trans (PySem.W.mg_of KX G T.law)
    cases e0                                       -- fa is the law's own address
    exact ⟨_, fun s u => .of_eq rfl, fun base kb nb => My.law_fn T kb nb⟩     -- if «.of_eq rfl» comes too early: refine' ⟨_, ?b, fun base kb nb => My.law_fn T kb nb⟩; exact fun s u => .of_eq rfl
  case S => exact fun w H a ns hl hO hS => ..
  case C => exact ..
(the tactic k_is has no namespace: write k_is) -/
namespace L2
open PySem PySem.Spec PyProof.Rows
/-- the j-th statement of a class's body -/
def inClass (s : Stmt) (j : Nat) : Stmt := match s with
  | .ClassDef _ _ _ body _ _ _ _ _ _ _ => body.getD j (.Pass ⟨0, 0, 0, 0⟩)
  | _ => .Pass ⟨0, 0, 0, 0⟩
def defArgs (s : Stmt) : Arguments := match s with
  | .FunctionDef _ a _ _ _ _ _ _ _ _ => a
  | _ => { posonlyargs := [], args := [], vararg := none, kwonlyargs := [], kw_defaults := [], kwarg := none, defaults := [] }
def defBody (s : Stmt) : List Stmt := match s with
  | .FunctionDef _ _ b _ _ _ _ _ _ _ => b
  | _ => []
def defScope (s : Stmt) : Scope := match s with
  | .FunctionDef _ _ _ _ _ _ sc _ _ _ => sc
  | _ => { kind := .function, names := [], isGenerator := false, isCoroutine := false }
abbrev CX0 : CXT := fun _ _ _ _ _ _ => False
abbrev E0 : XK := fun _ _ _ => False
theorem pass0 {X : Cx} : Passes CX0 X E0 := fun _ _ _ _ _ _ _ h => h.elim
structure Fun (K : PySem.W.Frag) (x qual : Str) (st : Stmt) (f : Addr) (fd : FuncData) : Prop where
  ex : ∃ (oc : Value) (od : Option Addr) (kV doc pm : Value) (an : Option Addr) (cdv ct : Value) (osl : Array (Option Value)),
    fd = PySem.W.fnOf x qual (defArgs st) (defBody st) (defScope st) .none kV doc pm an cdv ct ∧ K.lookup f = some ⟨oc, od, .func fd, osl⟩ ∧ PySem.W.codeIn K cdv qual = true
  kp : PySem.W.keepIn K (.ref f) = true
section
variable {P : Program} {w : World} {K : PySem.W.Frag} {mg : Str → Option Value} {base : Heap}
/-- THE RULE for a def: its body as a term of rules, and the reading of that term -/
theorem Fun.ok {x qual : Str} {st : Stmt} {f : Addr} {fd : FuncData} {N ps : List Str} {k : Nat} {sp : Sp} (F : Fun K x qual st f fd) (S : FnScope N ps (defScope st)) (len : ∀ vs H Q E, sp vs H Q E → vs.length = ps.length)
    (hbody : ∀ (cdv : Value) (A : Around) (outer : List Env) (s : Shared) (H : Hp) (vs : List V) (Q : VK) (E : XK), Room k (A.deeper (envOfC qual (defScope st) s.heap.objs.size f cdv)) → sp vs H Q E →
      ∃ t, PSs (cxOf CX0 P w K mg base N qual (defScope st) f cdv A outer s H E).nox (defBody st) t ∧ t { nx := fun _ H' => Q .non H', rt := Q } (start N vs) H) : FnOk P w K mg base CX0 (k + 1) f fd ps sp := by
  obtain ⟨oc, od, kV, doc, pm, an, cdv, ct, osl, rfl, lk, hcd⟩ := F.ex
  refine fn_of lk hcd S len fun A outer s H vs Q E hr hsp => ?_
  obtain ⟨t, h, q⟩ := hbody cdv A outer s H vs Q E hr hsp
  exact ⟨t, h.nox, q⟩
/-- how its arguments bind (no defaults): h is «fun _ _ _ _ _ _ us hl => match us, hl with | [_, _], _ => rfl», one _ a parameter -/
theorem Fun.binds {x qual : Str} {st : Stmt} {f : Addr} {fd : FuncData} {ps : List Str} (F : Fun K x qual st f fd)
    (h : ∀ (kV doc pm : Value) (an : Option Addr) (cdv ct : Value) (us : List Value), us.length = ps.length → bindArgs (PySem.W.fnOf x qual (defArgs st) (defBody st) (defScope st) .none kV doc pm an cdv ct) ⟨us, []⟩ = pure (ps.zip us)) : Binds K fd ps [] := by
  obtain ⟨oc, od, kV, doc, pm, an, cdv, ct, osl, rfl, lk, hcd⟩ := F.ex
  exact .all (h kV doc pm an cdv ct)
theorem fun_mk {x qual : Str} {st : Stmt} {f : Addr} {oc : Value} {od an : Option Addr} {osl : Array (Option Value)} {kV doc pm cdv ct : Value} (l : K.lookup f = some ⟨oc, od, .func (PySem.W.fnOf x qual (defArgs st) (defBody st) (defScope st) .none kV doc pm an cdv ct), osl⟩)
    (c : PySem.W.codeIn K cdv qual = true) (k : PySem.W.keepIn K (.ref f) = true) : Fun K x qual st f (PySem.W.fnOf x qual (defArgs st) (defBody st) (defScope st) .none kV doc pm an cdv ct) := ⟨⟨oc, od, kV, doc, pm, an, cdv, ct, osl, rfl, l, c⟩, k⟩
end
theorem small1000 {n : Nat} (h : n ≤ 1000) : n < sizeLine := Nat.lt_of_le_of_lt h (by decide)
section
variable {X : Cx}
theorem pv (i : Nat) {x : Str} {pos : Pos} (hN : X.N[i]? = some x := by rfl) (hv : Vis X.env.scope x := by first | exact Or.inl rfl | exact Or.inr (Or.inl rfl) | exact Or.inr (Or.inr rfl)) (hd : (x == ("__debug__" : Str)) = false := by decide)
    (hcd : (x == ("__classdict__" : Str)) = false := by decide) : PE X (.Name x pos) (tVar i) := pe_var hN hv hd hcd
end
theorem iteF {A B : Prop} (h : B) : if false = true then A else B := by
  rw [if_neg Bool.false_ne_true]
  exact h
theorem iteT {A B : Prop} (h : A) : if true = true then A else B := by
  rw [if_pos rfl]
  exact h
theorem ite2 {c A B : Prop} [Decidable c] (h1 : c → A) (h2 : ¬ c → B) : if c then A else B := by
  by_cases h : c
  · rw [if_pos h]
    exact h1 h
  · rw [if_neg h]
    exact h2 h
theorem iteNS {c A B : Prop} [Decidable c] (hc : c) (h : B) : if (!decide c) = true then A else B := by
  rw [decide_eq_true hc]
  exact iteF h
/-- all that was tracked is as it was -/
def Same (H H' : Hp) : Prop := ∀ b o, H b = some o → H' b = some o
theorem Same.refl (H : Hp) : Same H H := fun _ _ h => h
theorem Same.trans {H H1 H2 : Hp} (a : Same H H1) (b : Same H1 H2) : Same H H2 := fun c o h => b c o (a c o h)
theorem Same.free {H H' : Hp} (e : Same H H') {l : Addr} (h : H' l = Option.none) : H l = Option.none := by
  cases q : H l with
  | none => rfl
  | some o =>
    rw [e l o q] at h
    cases h
theorem Same.seq {K : PySem.W.Frag} {H H' : Hp} {a : Addr} {xs : List V} (e : Same H H') (h : SqL K H a xs) : SqL K H' a xs := by
  rcases h with (h | ⟨o, h⟩) | h
  · exact .inl (.inl (e _ _ h))
  · exact .inl (.inr ⟨o, e _ _ h⟩)
  · exact .inr h
end L2
set_option Elab.async false
set_option maxHeartbeats 4000000
namespace L2
open PySem PySem.Spec PyProof.Rows
def gRel (env : Env) (n : Str) (k : NameKind) : NameKind := if (k == NameKind.free && env.scope.kind == .function && env.kindOf n == some .cell) then .cell else k
theorem lookup_relabel {env : Env} {y : Str} : ∀ {names : List (Str × NameKind)},
    (names.map fun (n, k) => if (k == NameKind.free && env.scope.kind == .function && env.kindOf n == some .cell) then (n, NameKind.cell) else (n, k)).lookup y = (names.lookup y).map (gRel env y)
  | [] => rfl
  | (n, k) :: r => by
    have ih := @lookup_relabel env y r
    show List.lookup y ((if (k == NameKind.free && env.scope.kind == .function && env.kindOf n == some .cell) = true then (n, NameKind.cell) else (n, k)) :: _) = _
    have e : (if (k == NameKind.free && env.scope.kind == .function && env.kindOf n == some .cell) = true then (n, NameKind.cell) else (n, k)) = (n, gRel env n k) := by
      unfold gRel; split <;> rfl
    rw [e]
    cases hx : y == n with
    | true =>
      have : y = n := by simpa using hx
      subst this
      simp [List.lookup_cons]
    | false =>
      simp only [List.lookup_cons, hx]; exact ih
theorem names_relabel {scope : Scope} {env : Env} {y : Str} : (relabel scope env).names.lookup y = (scope.names.lookup y).map (gRel env y) := lookup_relabel
theorem closure_ok {env : Env} : ∀ {names : List (Str × NameKind)} (acc : List (Str × Addr)), (∀ n, (n, NameKind.free) ∈ names → ∃ c, env.cells.lookup n = some c) →
    (∀ y c, acc.lookup y = some c → env.cells.lookup y = some c) →
    ∃ cl, (forIn names acc fun x (r : List (Str × Addr)) => (if x.2 == NameKind.free then do let a ← cellOf env x.1; pure (ForInStep.yield ((x.1, a) :: r)) else pure (ForInStep.yield r) : Sem (ForInStep (List (Str × Addr))))) = (pure cl : Sem (List (Str × Addr))) ∧
      (∀ y c, cl.lookup y = some c → env.cells.lookup y = some c) ∧ (∀ y c, acc.lookup y = some c → ∃ c', cl.lookup y = some c') ∧ (∀ n, (n, NameKind.free) ∈ names → ∃ c, cl.lookup n = some c)
  | [], acc, _, ha => ⟨acc, rfl, ha, fun y c e => ⟨c, e⟩, fun _ h => nomatch h⟩
  | (n, k) :: r, acc, h, ha => by
    rw [List.forIn_cons]
    cases hk : k == NameKind.free with
    | true =>
      have ek : k = NameKind.free := by simpa using hk
      subst ek
      obtain ⟨c, hc⟩ := h n List.mem_cons_self
      obtain ⟨cl, e, q1, q2, q3⟩ := @closure_ok env r ((n, c) :: acc) (fun m hm => h m (List.mem_cons_of_mem _ hm)) (fun y d e => by
        rw [List.lookup_cons] at e
        cases hy : y == n with
        | true =>
          rw [hy] at e
          have : y = n := by simpa using hy
          subst this
          cases e; exact hc
        | false => rw [hy] at e; exact ha y d e)
      refine ⟨cl, ?_, q1, fun y d e => ?_, fun m hm => ?_⟩
      · have : cellOf env n = pure c := by unfold cellOf; rw [hc]
        simp only [hk, if_true, this]
        exact e
      · by_cases hy : y = n
        · subst hy
          exact q2 y c (by rw [List.lookup_cons]; simp)
        · have hy' : (y == n) = false := by simpa using hy
          exact q2 y d (by rw [List.lookup_cons, hy']; exact e)
      · rcases List.mem_cons.mp hm with z | z
        · cases z
          exact q2 _ c (by rw [List.lookup_cons]; simp)
        · exact q3 m z
    | false =>
      obtain ⟨cl, e, q1, q2, q3⟩ := @closure_ok env r acc (fun m hm => h m (List.mem_cons_of_mem _ hm)) ha
      refine ⟨cl, ?_, q1, q2, fun m hm => ?_⟩
      · simp only [hk, Bool.false_eq_true, if_false]
        exact e
      · rcases List.mem_cons.mp hm with z | z
        · cases z; simp at hk
        · exact q3 m z
theorem closureFor_ok {env : Env} {scope : Scope} (h : ∀ n, (n, NameKind.free) ∈ scope.names → ∃ c, env.cells.lookup n = some c) :
    ∃ cl, closureFor scope env = pure cl ∧ (∀ y c, cl.lookup y = some c → env.cells.lookup y = some c) ∧ (∀ n, (n, NameKind.free) ∈ scope.names → ∃ c, cl.lookup n = some c) := by
  obtain ⟨cl, e, q1, _, q3⟩ := closure_ok (env := env) [] h (fun y c z => by simp at z)
  refine ⟨cl, ?_, q1, q3⟩
  unfold closureFor
  simp only [bind_pure]
  exact e
section
variable {prog : Program} {w : World} {A : Around} {E : Value → Shared → Prop} {R : Result → Shared → Prop} {s : Shared}
theorem compLoop_own {elt target iter : Expr} {ifs : List Expr} {scope : Scope} {pos : Pos} {it acc : Value} {env : Env} (I : Nat → Shared → Prop)
    (turn : ∀ n s, I n s → wpAny (model prog w) A (pyNext it) (fun r s₁ => match r with
      | none => R (.ok .next) s₁
      | some v => wpAny (model prog w) A (letOwnedTupleGo target it v) (fun _ s₁' => wpAny (model prog w) A (assign target env v) (fun _ s₂ =>
          wpAny (model prog w) A (forIn ifs true fun c r => if r = true then do let ok ← isTrue c env (eval c env); pure (ForInStep.yield ok) else pure (ForInStep.yield r)) (fun ok s₃ =>
            if ok = true then wpAny (model prog w) A (eval elt env) (fun x s₄ =>
              wpAny (model prog w) A (call (.builtin "list.append") [acc, x]) (fun _ s₅ => ∃ m, m < n ∧ I m s₅) (fun _ _ => False) s₄) (fun _ _ => False) s₃
            else ∃ m, m < n ∧ I m s₃) (fun _ _ => False) s₂) (fun _ _ => False) s₁') (fun _ _ => False) s₁) (fun _ _ => False) s)
    (n : Nat) (h : I n s) :
    codeAny (model prog w) A (.compLoop (.ListComp elt [⟨target, iter, ifs, 0⟩] scope pos) 0 it acc env) R s := by
  refine codeAny_loop rfl I (fun n s hI => ?_) n h
  show wpAny _ A ((compTurn (.ListComp elt [⟨target, iter, ifs, 0⟩] scope pos) 0 it acc env).onRaise (fun x => do noteFrame x env; theTreesLotGoes x)) _ _ s
  refine wpAny_noted ?_
  rw [compTurn_list]
  refine wpAny_bind (wpAny_standAt (wpAny_bind (wpAny_mono (turn n s hI) (fun r s₁ h₁ => ?_) fun _ _ h' => h'.elim)))
  cases r with
  | none => exact wpAny_pure h₁
  | some v =>
    refine wpAny_bind (wpAny_mono h₁ (fun _ s₁' h₁' => ?_) fun _ _ h' => h'.elim)
    refine wpAny_bind (wpAny_mono h₁' (fun _ s₂ h₂ => wpAny_bind (wpAny_mono h₂ (fun ok s₃ h₃ => ?_) fun _ _ h' => h'.elim)) fun _ _ h' => h'.elim)
    cases ok with
    | false => exact wpAny_pure ⟨rfl, h₃⟩
    | true =>
      exact wpAny_bind (wpAny_bind (wpAny_mono h₃ (fun x s₄ h₄ => wpAny_bind (wpAny_mono h₄ (fun _ s₅ h₅ => wpAny_pure (wpAny_pure ⟨rfl, h₅⟩)) fun _ _ h' => h'.elim)) fun _ _ h' => h'.elim))
end
/-- the block's context: the loop's name is slot 0, the names around it follow -/
def cxLC (X : Cx) (scope : Scope) (cl : List (Str × Addr)) (C : Addr) (x : Str) (s0 : Shared) (H0 : Hp) (fp : List Addr) (pn : List (Addr × Obj)) : Cx :=
  { X with N := x :: X.N, s₀ := s0, H₀ := H0, env := compEnvC scope cl C X.env, outer := X.stack, stack := X.stack, ex := fp, fn := fun _ => false, pn := pn, xe := fun _ _ => False }
/-- the tests of a clause -/
def PTs (X : Cx) (ifs : List Expr) (t : TT) : Prop :=
  ∀ (pins : List (Addr × Obj)) (s : Shared) (σ : St) (H : Hp) (Q : Bool → Hp → Prop), Inv X pins σ H s → t σ H Q →
    wpAny (model X.prog X.w) X.A (forIn ifs true fun c r => if r = true then do let ok ← isTrue c X.env (eval c X.env); pure (ForInStep.yield ok) else pure (ForInStep.yield r)) (TP X pins σ Q) X.xe s
def tYes : TT := fun _ H Q => Q true H
theorem pts_nil {X : Cx} : PTs X [] tYes := fun _ _ _ H _ I h => wpAny_tests_nil ⟨H, I, h⟩
/-- what a comprehension with the readings tc, te wants of the iterator J -/
def LCw (J : It) (tc : TT) (te : TE) (σ : St) (H1 : Hp) (Q : VK) : Prop := ∃ W : Nat → Nat → List V → Hp → Prop, (∃ m, W 0 m [] H1) ∧ ∀ i m ys H, W i m ys H →
  (J.stop i H ∧ ∀ p, H p = none → Q (.ref p) (upd H p (.lst ys))) ∨
  (J.go i H ∧ ys.length < sizeLine ∧ ∃ N : List V → Hp → Prop, (∀ zs H', N zs H' → ∃ m', m' < m ∧ W (i + 1) m' zs H') ∧ ∀ x H', J.yld i H x H' → tc (some x :: σ) H' fun c H2 =>
    if c = true then te (some x :: σ) H2 fun y H3 => N (ys ++ [y]) H3 else N ys H2)
/-- W: the invariant by the turn, a measure and what stands in the new list so far -/
def tLC (wi : TI) (tc : TT) (te : TE) : TE := fun σ H Q => wi σ H fun J H1 => LCw J tc te σ H1 Q
abbrev lobj (its : List Value) (n : Nat) : Obj := { cls := .type "list", data := .seq its.toArray n }
theorem Un.late {fs ex : List Addr} {H H' : Hp} {h h1 h' : Heap} {D : Addr} {o : HO} (u : Un fs ex H H' h h1) (hlt : ∀ b q, H b = some q → b < h.objs.size) (hD : h.objs.size ≤ D) (k : ∀ b, b < h.objs.size → h'.get? b = h1.get? b) : Un fs ex H (upd H' D o) h h' where
  keep := fun b q e n hb hx => (k b (Heap.lt_size e)).trans (u.keep b q e n hb hx)
  slot := fun b q e n hb hx => by
    obtain ⟨sl, e'⟩ := u.slot b q e n hb hx
    exact ⟨sl, (k b (Heap.lt_size e)).trans e'⟩
  free := fun b q e n hx => by
    rw [upd_ne (Nat.ne_of_lt (Nat.lt_of_lt_of_le (Heap.lt_size e) hD))]; exact u.free b q e n hx
  there := fun b q e hx => by
    obtain ⟨o', e'⟩ := u.there b q e hx
    exact ⟨o', (k b (Heap.lt_size e)).trans e'⟩
  tups := fun b xs e => by rw [upd_ne (Nat.ne_of_lt (Nat.lt_of_lt_of_le (hlt b _ e) hD))]; exact u.tups b xs e
  frzs := fun b q xs e => by rw [upd_ne (Nat.ne_of_lt (Nat.lt_of_lt_of_le (hlt b _ e) hD))]; exact u.frzs b q xs e
  tbls := fun b ps e => by rw [upd_ne (Nat.ne_of_lt (Nat.lt_of_lt_of_le (hlt b _ e) hD))]; exact u.tbls b ps e
theorem pe_lc {X : Cx} {x : Str} {px : Pos} {iter elt : Expr} {ifs : List Expr} {scope : Scope} {pos : Pos} {wi : TI} {tc : TT} {te : TE} (hc : X.calm = true) (hnd : X.N.Nodup) (hi : PI X (.Name x px) iter wi)
    (ht : ∀ cl C s0 H0 fp pn, PTs (cxLC X scope cl C x s0 H0 fp pn) ifs tc) (he : ∀ cl C s0 H0 fp pn, PE (cxLC X scope cl C x s0 H0 fp pn) elt te)
    (hN : ∀ y ∈ X.N, scope.names.lookup y ≠ some .local) (hx : scope.names.lookup x = some .local)
    (hfree : ∀ y ∈ scope.names, y.2 = .free → X.env.kindOf y.1 = some .cell) (hcell : ∀ y ∈ scope.names, y.2 ≠ .cell)
    (hnames : ∀ y ∈ scope.names, y.2 = .local → scope.names.lookup y.1 = some .local) (hkind : scope.kind = .function := by rfl)
    (hs : ∀ x, foldedSetIterable iter X.env x = pure x := by intro _; rfl) : PE X (.ListComp elt [⟨.Name x px, iter, ifs, 0⟩] scope pos) (tLC wi tc te) := by
  intro pins s σ H Q I h
  obtain ⟨cl, hclos, hcl1, hcl2⟩ := closureFor_ok (env := X.env) (scope := scope) fun n hn => I.ok.has n (.inl (hfree (n, .free) hn rfl))
  rw [eval_ListComp]
  refine wpAny_comprehension_free (use := none) rfl hs hclos hkind hnames (thn (hi pins s σ H _ I h) fun xv s1 h1 => thn h1 fun itv s2 h2 => ?_)
  obtain ⟨it, fp, tn, J, H2, e, I2, T, st2, f2, W, ⟨m0, w0⟩, turn⟩ := h2
  subst e
  refine wpAny_newObj_type (wpAny_newFunctionEnv hcell (by intro y hy; simp at hy) (fun h₁ hns₁ hsb₁ => ?_) hkind)
  dsimp only at hns₁ hsb₁ ⊢
  generalize hH2 : s2.heap.push { cls := .type "list", dict := none, data := .seq ([] : List Value).toArray } = HH at hns₁ hsb₁ ⊢
  have hC : HH.objs.size = s2.heap.objs.size + 1 := by rw [← hH2, Heap.size_push]
  have hDC : s2.heap.objs.size ≠ HH.objs.size := by rw [hC]; exact Nat.ne_of_lt (Nat.lt_succ_self _)
  have below : ∀ b, b < s2.heap.objs.size → b ≠ HH.objs.size ∧ b ≠ s2.heap.objs.size := fun b hb => ⟨by rw [hC]; exact Nat.ne_of_lt (Nat.lt_succ_of_lt hb), Nat.ne_of_lt hb⟩
  have old : ∀ b o, s2.heap.get? b = some o → h₁.get? b = some o := fun b o e => hsb₁.extBut b o (below b (Heap.lt_size e)).1 (Heap.get?_push_of_some _ (hH2 ▸ Heap.get?_push_of_some _ e))
  have hacc : h₁.get? s2.heap.objs.size = some (lobj [] 0) := hsb₁.extBut _ _ hDC (Heap.get?_push_of_some _ (hH2 ▸ Heap.get?_push_size _ rfl))
  have hfpo := T.obj 0 _ st2
  have hfplt : ∀ b ∈ fp, b < s2.heap.objs.size := fun b hb => by
    obtain ⟨o, e, _⟩ := hfpo b hb
    exact Heap.lt_size e
  have stl : ∀ b ∈ frs X.stack, b < s2.heap.objs.size := fun b hb => by
    obtain ⟨_, o, ho, _⟩ := I2.stack.mem hb
    exact Heap.lt_size ho
  have celt : ∀ y c, X.env.cells.lookup y = some c → c < s2.heap.objs.size := fun y c e => by
    obtain ⟨v, q⟩ := I2.cell y c e
    exact q.lt
  have hpf : ∀ p ∈ X.pn ++ pins, p.1 ∉ frs X.stack := fun p hp z => by
    obtain ⟨_, _, n1, n2, _⟩ := I2.pin p hp
    rcases List.mem_cons.mp (I2.stkSub _ z) with q | q
    · exact n1 q
    · exact n2 q
  -- the block's context
  have okX : (cxLC X scope cl HH.objs.size x s2 H2 fp (X.pn ++ pins)).Ok := by
    refine ⟨I2.ok.mod, hkind, I2.ok.glob, I2.ok.blt, ?_, fun y z c e1 e2 => I2.ok.inj y z c (hcl1 _ _ e1) (hcl1 _ _ e2), fun y hy => ?_, fun y c hf => (nomatch hf), I2.ok.hd, I2.ok.frames, .inl rfl, fun b hb => ?_, I2.bs, ?_, fun b o e hb => ?_, fun b hb => ?_, I2.stack, I2.stkFree⟩
    · show s2.heap.objs.size ≤ HH.objs.size
      rw [hC]; exact Nat.le_succ _
    · have hy' : (relabel scope X.env).names.lookup y = some .cell ∨ (relabel scope X.env).names.lookup y = some .free := hy
      rw [names_relabel] at hy'
      have : scope.names.lookup y = some .free := by
        cases q : scope.names.lookup y with
        | none => rw [q] at hy'; rcases hy' with z | z <;> cases z
        | some k =>
          have hm := PySem.mem_of_lookup q
          rw [q] at hy'
          have hk : gRel X.env y k = .cell ∨ gRel X.env y k = .free := by simpa using hy'
          unfold gRel at hk
          split at hk
          · rename_i c
            simp at c
            rw [c.1.1]
          · rcases hk with z | z
            · exact absurd z (hcell _ hm)
            · rw [z]
      exact hcl2 y (PySem.mem_of_lookup this)
    · refine ⟨?_, fun y c e z => (f2 b hb).2.2.2.2.1 y c (hcl1 _ _ e) z⟩
      exact (below b (hfplt b hb)).1
    · exact Nat.le_trans I2.ok.bsz I2.sz
    · have := (I2.bs b o e).2
      rcases (f2 b hb).2.2.2.1 with z | z
      · exact I2.ok.noex b o e z
      · exact absurd (Nat.lt_of_lt_of_le (Heap.lt_size (I2.ok.bs b o e).1) z) (Nat.lt_irrefl _)
    · intro z
      rcases List.mem_cons.mp (I2.stkSub _ z) with q | q
      · exact (f2 b hb).2.1 q
      · exact (f2 b hb).2.2.1 q
  have start : ∀ t, Inv (cxLC X scope cl HH.objs.size x s2 H2 fp (X.pn ++ pins)) [(s2.heap.objs.size, lobj [] 0)] (none :: σ) H2 { s2 with heap := h₁, toks := t } := fun t => by
    refine ⟨okX, rfl, I2.bare, Un.kept old, ⟨_, hns₁, fun i y v e1 e2 e3 => ?_⟩, fun y c e => ?_, I2.hok.fresh (by show s2.heap.objs.size ≤ HH.objs.size; rw [hC]; exact Nat.le_succ _), fun y c e => I2.freeC y c (hcl1 _ _ e), fun p hp => ?_, I2.hok.kept old, ?_⟩
    · cases i with
      | zero => cases e2
      | succ j =>
        have e1' : X.N[j]? = some y := e1
        have e2' : σ[j]? = some (some v) := e2
        have hyN : y ∈ X.N := List.mem_of_getElem? e1'
        have e3' : Vis (relabel scope X.env) y := e3
        unfold Vis at e3'
        rw [names_relabel] at e3'
        cases q : scope.names.lookup y with
        | none => rw [q] at e3'; rcases e3' with z | z | z <;> cases z
        | some k =>
          have hm := PySem.mem_of_lookup q
          rw [q] at e3'
          have kf : k = .free := by
            have hk : gRel X.env y k = .local ∨ gRel X.env y k = .cell ∨ gRel X.env y k = .free := by simpa using e3'
            unfold gRel at hk
            split at hk
            · rename_i c; simp at c; exact c.1.1
            · rcases hk with z | z | z
              · exact absurd (q.trans (congrArg some z)) (hN y hyN)
              · exact absurd z (hcell _ hm)
              · exact z
          subst kf
          have kc := hfree _ hm rfl
          obtain ⟨m, hn, hl⟩ := I2.loc
          obtain ⟨u, ru, lk⟩ := hl j y v e1' e2' (.inr (.inl kc))
          refine ⟨u, ru, ?_⟩
          rcases lk with ⟨z, _⟩ | ⟨_, c, ec, hcell'⟩
          · rw [kc] at z; cases z
          · obtain ⟨c', ec'⟩ := hcl2 y hm
            have : c' = c := by have z := hcl1 _ _ ec'; rw [ec] at z; exact (Option.some.inj z).symm
            subst this
            refine .inr ⟨.inl ?_, c', ec', ?_⟩
            · show (relabel scope X.env).names.lookup y = some .cell
              rw [names_relabel, q]
              show some (gRel X.env y .free) = _
              unfold gRel
              rw [I2.ok.kind, kc]; rfl
            · obtain ⟨o, ho, hd⟩ := hcell'
              exact ⟨o, old _ _ ho, hd⟩
    · obtain ⟨v, o, ho, hd⟩ := I2.cell y c (hcl1 _ _ e)
      exact ⟨v, o, old _ _ ho, hd⟩
    · rcases List.mem_append.mp hp with hp | hp
      · obtain ⟨a1, a2, a3, a4, a5⟩ := I2.pin p hp
        exact ⟨old _ _ a1, a2, (below _ (Heap.lt_size a1)).1, hpf p hp, a5⟩
      · have ep : p = (s2.heap.objs.size, lobj [] 0) := by simpa using hp
        subst ep
        exact ⟨hacc, I2.hok.fresh (Nat.le_refl _), hDC, fun z => absurd (stl _ z) (Nat.lt_irrefl _), fun v z => nomatch z⟩
    · show (none :: σ).length = (x :: X.N).length
      rw [List.length_cons, List.length_cons, I2.len]
  have fpo : ∀ {H' : Hp} {pl : List (Addr × Obj)}, (∀ b ∈ fp, H' b = none) → (∀ p ∈ pl, p.1 = s2.heap.objs.size) → ∀ b ∈ fp, FpOk (cxLC X scope cl HH.objs.size x s2 H2 fp (X.pn ++ pins)) pl H' b := fun hn hpl b hb => by
    obtain ⟨_, a2, a3, a4, a5, a6⟩ := f2 b hb
    refine ⟨hn b hb, (below b (hfplt b hb)).1, fun z => ?_, .inl hb, fun y c e z => a5 y c (hcl1 _ _ e) z, fun p hp z => ?_⟩
    · rcases List.mem_cons.mp (I2.stkSub _ z) with q | q
      · exact a2 q
      · exact a3 q
    · rcases List.mem_append.mp hp with hp | hp
      · exact a6 p hp z
      · have := hpl p hp
        rw [this] at z
        exact (below b (hfplt b hb)).2 z.symm
  have hnd' : (x :: X.N).Nodup := List.nodup_cons.mpr ⟨fun z => hN x z hx, hnd⟩
  have loop : ∀ t, codeAny (model X.prog X.w) X.A (.compLoop (.ListComp elt [⟨.Name x px, iter, ifs, 0⟩] scope pos) 0 (.ref it) (.ref s2.heap.objs.size) (compEnvC scope cl HH.objs.size X.env))
      (compPost (model X.prog X.w) X.A X.xe none (EP X pins σ Q) (.ref s2.heap.objs.size) HH.objs.size) { s2 with heap := h₁, toks := t } := fun t => by
    refine compLoop_own (fun n s' => ∃ i ys its k H', Inv (cxLC X scope cl HH.objs.size x s2 H2 fp (X.pn ++ pins)) [(s2.heap.objs.size, lobj its k)] (none :: σ) H' s' ∧ Vals ys its ∧ ys.length ≤ sizeLine ∧ tn i s'.heap ∧ (∀ b ∈ fp, H' b = none) ∧ W i n ys H') ?_ m0
      ⟨0, [], [], 0, H2, start t, .nil, Nat.zero_le _, T.keep _ _ _ st2 fun b _ o e => old b o e, fun b hb => (f2 b hb).1, w0⟩
    rintro n s3 ⟨i, ys, its, k, H3, I3, r3, z3, st3, fr3, w3⟩
    have hone : ∀ p ∈ [(s2.heap.objs.size, lobj its k)], p.1 = s2.heap.objs.size := fun p hp => by
      have : p = (s2.heap.objs.size, lobj its k) := by simpa using hp
      rw [this]
    rcases turn i n ys H3 w3 with ⟨stop, qn⟩ | ⟨go, zlt, NN, hNN, step⟩
    · refine thn (T.done (cxLC X scope cl HH.objs.size x s2 H2 fp (X.pn ++ pins)) rfl rfl rfl hc i _ s3 (none :: σ) H3 (fun _ _ => False) I3 (fpo fr3 hone) st3 stop) fun r s4 ⟨hr, I4⟩ => ?_
      subst hr
      obtain ⟨m, hm, _⟩ := I4.loc
      refine ⟨m, hm, fun h' sb => ?_⟩
      have pD := I4.pin (s2.heap.objs.size, lobj its k) (List.mem_append_right _ List.mem_cons_self)
      have gD : h'.get? s2.heap.objs.size = some (lobj its k) := (sb.2 _ hDC).trans pD.1
      refine ⟨.ref s2.heap.objs.size, upd H3 s2.heap.objs.size (.lst ys), I2.call' (ch := fp) (I4.os) (Un.late I4.base (fun b q e => I2.hok.lt e) (Nat.le_refl _) fun b hb => sb.2 b (below b hb).1) (fun b u e => ?_) I4.bare (fun b hb => ?_), rfl, qn _ pD.2.1⟩
      · by_cases hb : b = s2.heap.objs.size
        · subst hb
          rw [upd_same] at e
          cases e
          exact ⟨z3, its, k, r3, gD⟩
        · rw [upd_ne hb] at e
          refine (I4.hok b u e).stay (fun c v hcc q => (sb.2 c ?_).trans q) (fun c q => ?_) fun c xs q => ?_
          · rintro rfl
            have fr := I4.free
            rcases hcc with z | z
            · rw [← z] at e; rw [show (cxLC X scope cl HH.objs.size x s2 H2 fp (X.pn ++ pins)).env.locals = HH.objs.size from rfl] at fr; rw [fr] at e; cases e
            · rw [show (cxLC X scope cl HH.objs.size x s2 H2 fp (X.pn ++ pins)).env.locals = HH.objs.size from rfl] at fr; rw [fr] at z; cases z
          · rw [upd_ne (ne_of_none q pD.2.1)]; exact q
          · rw [upd_ne (ne_of_none q pD.2.1)]; exact q
      · obtain ⟨_, a2, _, a4, a5, a6⟩ := f2 b hb
        exact ⟨a4, a2, a5, a6⟩
    · refine thn (T.item (cxLC X scope cl HH.objs.size x s2 H2 fp (X.pn ++ pins)) rfl rfl rfl hc i _ s3 (none :: σ) H3 (fun _ _ => False) I3 (fpo fr3 hone) st3 go) fun r s4 ⟨u, hr, h4⟩ => ?_
      subst hr
      refine thn h4 fun _ s5 ⟨v, H5, I5, r5, y5, st5, fr5⟩ => ?_
      have I5' := I5.pinned (fpo fr5 hone) (T.obj _ _ st5)
      refine wpAny_assign_Name (store_ok (X := cxLC X scope cl HH.objs.size x s2 H2 fp (X.pn ++ pins)) (i := 0) I5' hnd' rfl (.inl (by show (relabel scope X.env).names.lookup x = _; rw [names_relabel, hx]; rfl)) r5 (fun s6 I6 => ?_) (.inr (by show (relabel scope X.env).names.lookup x = _; rw [names_relabel, hx]; rfl)))
      have I6' : Inv (cxLC X scope cl HH.objs.size x s2 H2 fp (X.pn ++ pins)) ([(s2.heap.objs.size, lobj its k)] ++ pinsAt fp s5.heap) (some v :: σ) H5 s6 := I6
      refine thn (ht cl HH.objs.size s2 H2 fp (X.pn ++ pins) _ s6 _ H5 _ I6' (step v H5 y5)) fun c s7 ⟨H7, I7, q7⟩ => ?_
      -- what the block's state says of the iterator and the list
      have again : ∀ {H9 : Hp} {s9 : Shared} {σ9 : St} {zs : List V} {jts : List Value} {k' : Nat}, Inv (cxLC X scope cl HH.objs.size x s2 H2 fp (X.pn ++ pins)) ([(s2.heap.objs.size, lobj jts k')] ++ pinsAt fp s5.heap) (some v :: σ) H9 s9 → Vals zs jts → zs.length ≤ sizeLine → NN zs H9 →
          ∃ m, m < n ∧ ∃ i ys its k H', Inv (cxLC X scope cl HH.objs.size x s2 H2 fp (X.pn ++ pins)) [(s2.heap.objs.size, lobj its k)] (none :: σ) H' s9 ∧ Vals ys its ∧ ys.length ≤ sizeLine ∧ tn i s9.heap ∧ (∀ b ∈ fp, H' b = none) ∧ W i m ys H' := fun {H9 s9 σ9 zs jts k'} I9 r9 z9 n9 => by
        obtain ⟨m', hm, w9⟩ := hNN zs H9 n9
        refine ⟨m', hm, i + 1, zs, jts, k', H9, (I9.unpinned.weak (σ' := none :: σ) rfl fun j v' e => ?_), r9, z9, T.keep _ _ _ st5 fun b hb o e => (I9.pin (b, o) (List.mem_append_right _ (List.mem_append_right _ (mem_pinsAt hb e)))).1, fun b hb => ?_, w9⟩
        · cases j with
          | zero => cases e
          | succ j => exact e
        · obtain ⟨o, e, d⟩ := T.obj _ _ st5 b hb
          exact (I9.pin (b, o) (List.mem_append_right _ (List.mem_append_right _ (mem_pinsAt hb e)))).2.1
      cases c with
      | false =>
        simp only [Bool.false_eq_true, if_false] at q7 ⊢
        exact again (σ9 := []) I7 r3 z3 q7
      | true =>
        simp only [if_true] at q7 ⊢
        refine thn (he cl HH.objs.size s2 H2 fp (X.pn ++ pins) _ s7 _ H7 _ I7 q7) fun u8 s8 ⟨y, H8, I8, r8, q8⟩ => ?_
        have pD := I8.pin (s2.heap.objs.size, lobj its k) (List.mem_append_right _ (List.mem_append_left _ List.mem_cons_self))
        refine append_at (hsz := by rw [List.size_toArray, ← r3.length]; exact z3) pD.1 fun h9 sb9 hD9 => ?_
        have e9 : ({ cls := .type "list", data := .seq (its.toArray.push u8) (k + 1) } : Obj) = lobj (its ++ [u8]) (k + 1) := by
          show _ = ({ cls := .type "list", data := .seq (its ++ [u8]).toArray (k + 1) } : Obj)
          rw [List.push_toArray]
        rw [e9] at hD9
        have Ia : Inv (cxLC X scope cl HH.objs.size x s2 H2 fp (X.pn ++ pins)) (pinsAt fp s5.heap) (some v :: σ) H8 s8 := I8.pins_of fun p hp => I8.pin p (List.mem_append_right _ (List.mem_append_right _ hp))
        have nfp : ∀ p ∈ pinsAt fp s5.heap, p.1 ≠ s2.heap.objs.size := fun p hp => (below _ (hfplt _ (of_pinsAt hp).1)).2
        have Ib : Inv (cxLC X scope cl HH.objs.size x s2 H2 fp (X.pn ++ pins)) (pinsAt fp s5.heap) (some v :: σ) H8 { s8 with heap := h9, toks := s8.toks } := by
          refine Ia.turned (it := s2.heap.objs.size) (fun b o hb e => (sb9.2 b hb).trans e) pD.2.1 pD.2.2.1 (.inr (Nat.le_refl _)) (fun y' c e z => absurd (celt _ _ (hcl1 _ _ e)) (by rw [z]; exact Nat.lt_irrefl _)) fun p hp => ?_
          rcases List.mem_append.mp hp with hp | hp
          · exact (below _ (Heap.lt_size (I2.pin p hp).1)).2
          · exact nfp p hp
        refine again (σ9 := []) (zs := ys ++ [y]) (jts := its ++ [u8]) (k' := k + 1) (Ib.pins_of fun p hp => ?_) (r3.append (.cons r8 .nil)) (by rw [List.length_append]; exact zlt) q8
        rcases List.mem_append.mp hp with hp | hp
        · have ep : p = (s2.heap.objs.size, lobj (its ++ [u8]) (k + 1)) := by simpa using hp
          subst ep
          exact ⟨hD9, pD.2.1, pD.2.2.1, pD.2.2.2.1, fun v z => nomatch z⟩
        · exact Ib.pin p (List.mem_append_right _ hp)
  exact codeAny_compStart_list (loop _) (T.self _ 0 _ _ _ (T.keep _ _ _ st2 fun b _ o e => old b o e) (loop _))
/-- the names of a comprehension's block, looked over -/
def lcOk (N : List Str) (names outer : List (Str × NameKind)) (x : Str) : Bool :=
  N.all (fun y => names.lookup y != some .local) && (names.lookup x == some .local && names.all fun y => (y.2 != .free || outer.lookup y.1 == some .cell) && (y.2 != .cell && (y.2 != .local || names.lookup y.1 == some .local)))
theorem pe_lcB {X : Cx} {x : Str} {px : Pos} {iter elt : Expr} {ifs : List Expr} {scope : Scope} {pos : Pos} {wi : TI} {tc : TT} {te : TE} (hc : X.calm = true) (hnd : X.N.Nodup) (hi : PI X (.Name x px) iter wi)
    (ht : ∀ cl C s0 H0 fp pn, PTs (cxLC X scope cl C x s0 H0 fp pn) ifs tc) (he : ∀ cl C s0 H0 fp pn, PE (cxLC X scope cl C x s0 H0 fp pn) elt te) (hok : lcOk X.N scope.names X.env.scope.names x = true) (hkind : scope.kind = .function := by rfl)
    (hs : ∀ x, foldedSetIterable iter X.env x = pure x := by intro _; rfl) : PE X (.ListComp elt [⟨.Name x px, iter, ifs, 0⟩] scope pos) (tLC wi tc te) := by
  unfold lcOk at hok
  rw [Bool.and_eq_true, Bool.and_eq_true, List.all_eq_true, List.all_eq_true] at hok
  obtain ⟨h1, h2, h3⟩ := hok
  refine pe_lc hc hnd hi ht he (fun y hy => ?_) (by simpa using h2) (fun y hy e => ?_) (fun y hy => ?_) (fun y hy e => ?_) hkind hs
  · simpa using h1 y hy
  · have := h3 y hy
    rw [e] at this
    simp at this
    exact this
  · have := h3 y hy
    intro e
    rw [e] at this
    simp at this
  · have := h3 y hy
    rw [e] at this
    simpa using this
theorem lc_range {lo : Int} {n : Nat} {tc : TT} {te : TE} {σ : St} {H : Hp} {Q : VK} (Pv : Nat → List V → Hp → Prop) (h0 : Pv 0 [] H) (hz : n ≤ 1000) (hl : ∀ i ys H, Pv i ys H → ys.length ≤ i)
    (hs : ∀ i ys H, i < n → Pv i ys H → tc (some (.int (lo + i)) :: σ) H fun c H2 => if c = true then te (some (.int (lo + i)) :: σ) H2 fun y H3 => Pv (i + 1) (ys ++ [y]) H3 else Pv (i + 1) ys H2)
    (hd : ∀ ys H, Pv n ys H → ∀ p, H p = none → Q (.ref p) (upd H p (.lst ys))) : LCw (Itr lo n) tc te σ H Q := by
  refine ⟨fun i m ys H => m = n - i ∧ i ≤ n ∧ Pv i ys H, ⟨n, by simp, Nat.zero_le _, h0⟩, ?_⟩
  rintro i m ys H ⟨rfl, hi, p⟩
  by_cases hlt : i < n
  · refine .inr ⟨hlt, small1000 (by have := hl i ys H p; omega), Pv (i + 1), fun zs H' p' => ⟨n - (i + 1), by omega, rfl, hlt, p'⟩, fun x H' y => ?_⟩
    obtain ⟨e1, e2⟩ := y
    subst e1 e2
    exact hs i ys _ hlt p
  · have e : i = n := by omega
    subst e
    exact .inl ⟨Nat.le_refl _, hd ys H p⟩
theorem lc_list {K : PySem.W.Frag} {a : Addr} {xs : List V} {tc : TT} {te : TE} {σ : St} {H : Hp} {Q : VK} (Pv : Nat → List V → Hp → Prop) (h0 : Pv 0 [] H) (hz : xs.length ≤ 1000) (hl : ∀ i ys H, Pv i ys H → ys.length ≤ i) (hk : ∀ i ys H, i ≤ xs.length → Pv i ys H → SqL K H a xs)
    (hs : ∀ i x ys H, xs[i]? = some x → Pv i ys H → tc (some x :: σ) H fun c H2 => if c = true then te (some x :: σ) H2 fun y H3 => Pv (i + 1) (ys ++ [y]) H3 else Pv (i + 1) ys H2)
    (hd : ∀ ys H, Pv xs.length ys H → ∀ p, H p = none → Q (.ref p) (upd H p (.lst ys))) : LCw (Itl K a) tc te σ H Q := by
  refine ⟨fun i m ys H => m = xs.length - i ∧ i ≤ xs.length ∧ Pv i ys H, ⟨xs.length, by simp, Nat.zero_le _, h0⟩, ?_⟩
  rintro i m ys H ⟨rfl, hi, p⟩
  have q := hk i ys H hi p
  by_cases hlt : i < xs.length
  · refine .inr ⟨⟨xs, xs[i], q, by simp [hlt]⟩, small1000 (by have := hl i ys H p; omega), Pv (i + 1), fun zs H' p' => ⟨xs.length - (i + 1), by omega, rfl, hlt, p'⟩, fun x H' y => ?_⟩
    obtain ⟨e, y⟩ := y
    subst e
    exact hs i x ys _ (y xs q) p
  · have e : i = xs.length := by omega
    subst e
    exact .inl ⟨⟨xs, q, Nat.le_refl _⟩, hd ys H p⟩
theorem lc_rangeY {lo : Int} {n : Nat} {te : TE} {σ : St} {H : Hp} {Q : VK} (Pv : Nat → List V → Hp → Prop) (h0 : Pv 0 [] H) (hz : n ≤ 1000) (hl : ∀ i ys H, Pv i ys H → ys.length ≤ i)
    (hs : ∀ i ys H, i < n → Pv i ys H → te (some (.int (lo + i)) :: σ) H fun y H3 => Pv (i + 1) (ys ++ [y]) H3)
    (hd : ∀ ys H, Pv n ys H → ∀ p, H p = none → Q (.ref p) (upd H p (.lst ys))) : LCw (Itr lo n) tYes te σ H Q :=
  lc_range Pv h0 hz hl (fun i ys H hi p => iteT (B := Pv (i + 1) ys H) (hs i ys H hi p)) hd
theorem lc_listY {K : PySem.W.Frag} {a : Addr} {xs : List V} {te : TE} {σ : St} {H : Hp} {Q : VK} (Pv : Nat → List V → Hp → Prop) (h0 : Pv 0 [] H) (hz : xs.length ≤ 1000) (hl : ∀ i ys H, Pv i ys H → ys.length ≤ i) (hk : ∀ i ys H, i ≤ xs.length → Pv i ys H → SqL K H a xs)
    (hs : ∀ i x ys H, xs[i]? = some x → Pv i ys H → te (some x :: σ) H fun y H3 => Pv (i + 1) (ys ++ [y]) H3)
    (hd : ∀ ys H, Pv xs.length ys H → ∀ p, H p = none → Q (.ref p) (upd H p (.lst ys))) : LCw (Itl K a) tYes te σ H Q :=
  lc_list Pv h0 hz hl hk (fun i x ys H hi p => iteT (B := Pv (i + 1) ys H) (hs i x ys H hi p)) hd
end L2
set_option Elab.async false
set_option maxHeartbeats 4000000
namespace L2
open PySem PySem.Spec PyProof.Rows
structure DefOk (P : Program) (w : World) (K : PySem.W.Frag) (mg : Str → Option Value) (base : Heap) (CX : CXT) (x : Str) (k : Nat) (ps : List Str) (sp : Sp) : Prop where
  ex : ∃ f fd, FnOk P w K mg base CX k f fd ps sp ∧ Binds K fd ps [] ∧ PySem.W.keepIn K (.ref f) = true ∧ mg x = some (.ref f)
structure MethOk (P : Program) (w : World) (K : PySem.W.Frag) (mg : Str → Option Value) (base : Heap) (CX : CXT) (C : Addr) (m : Str) (k : Nat) (ps : List Str) (sp : Sp) : Prop where
  cls : Cls K C
  ex : ∃ f fd, FnOk P w K mg base CX k f fd ps sp ∧ Binds K fd ps [] ∧ Meth K C m f
structure ClsOk (P : Program) (w : World) (K : PySem.W.Frag) (mg : Str → Option Value) (base : Heap) (CX : CXT) (x : Str) (C : Addr) (k : Nat) (ps : List Str) (sp : Sp) : Prop where
  ex : ∃ f fd, FnOk P w K mg base CX k f fd ps sp ∧ Binds K fd ps [] ∧ Mk K C f ∧ mg x = some (.ref C)
section
variable {X : Cx} {CX : CXT} {j k : Nat} {C : Addr} {ps : List Str} {sp : Sp} {E : XK} {x m : Str} {p pos apos : Pos} {e o : Expr} {es : List Expr} {ta : TE} {t : TA}
theorem pe_def (D : DefOk X.prog X.w X.K X.mg X.base CX x j ps sp) (hr : Room k X.A) (hx : Passes CX X E) (ha : PA X (e :: es) t) (hjk : j ≤ k := by decide) (hg : Gl X x := by rfl) (hdb : (x == ("__debug__" : Str)) = false := by decide)
    (he : starEach (e :: es) X.env = (false, eval e X.env) :: starEach es X.env := by rfl) (hpl : (backTo pos (starEach es X.env)).any (·.1) = false := by rfl) : PE X (.Call (.Name x p) (e :: es) [] pos) (tCall sp [] E t) := by
  obtain ⟨f, fd, h1, h2, h3, h4⟩ := D.ex
  exact pe_call h1 (hr.mono hjk) hg h4 h3 h2 .nil hx ha hdb he hpl
theorem pe_me0 {pl : Sem Bool} (ho : PE X o ta) (M : MethOk X.prog X.w X.K X.mg X.base CX C m j ps sp) (hr : Room k X.A) (hx : Passes CX X E) (hjk : j ≤ k := by decide)
    (ht : eval (.Call (.Attribute o m apos) [] [] pos) X.env = (do
      let ov ← eval o X.env
      standAt apos.atName
      let (f, first) ← holding [ov] (getMethod ov m pl)
      callWith pos f first (backTo pos (starEach [] X.env)) (backToKw pos (keywordEach [] X.env))) := by rfl) :
    PE X (.Call (.Attribute o m apos) [] [] pos) (tMeth C m sp [] E ta tNil) := by
  obtain ⟨f, fd, h1, h2, h3⟩ := M.ex
  exact pe_meth0 ho M.cls h3 h1 (hr.mono hjk) h2 .nil hx ht
theorem pe_cls (D : ClsOk X.prog X.w X.K X.mg X.base CX x C j ps sp) (hr : Room k X.A) (hx : Passes CX X E) (ha : PA X (e :: es) t) (hjk : j + 1 ≤ k := by decide) (hg : Gl X x := by rfl) (hdb : (x == ("__debug__" : Str)) = false := by decide)
    (he : starEach (e :: es) X.env = (false, eval e X.env) :: starEach es X.env := by rfl) (hpl : (backTo pos (starEach es X.env)).any (·.1) = false := by rfl) : PE X (.Call (.Name x p) (e :: es) [] pos) (tMake C sp [] E t) := by
  obtain ⟨f, fd, h1, h2, h3, h4⟩ := D.ex
  exact pe_make h3 h1 (hr.mono hjk) hg h4 h2 .nil hx ha hdb he hpl
/-- a number that stands at the top -/
theorem pe_const {i : Int} {tk : Tok} (hm : X.mg x = some (.int i tk)) (hg : Gl X x := by rfl) (hd : (x == ("__debug__" : Str)) = false := by decide) : PE X (.Name x pos) (tC (.int i)) := pe_glob hg hm ⟨tk, rfl⟩ hd
/-- a class as a value -/
theorem pe_cl (hm : X.mg x = some (.ref C)) (hg : Gl X x := by rfl) (hd : (x == ("__debug__" : Str)) = false := by decide) : PE X (.Name x pos) (tC (.ref C)) := pe_glob hg hm rfl hd
theorem pe_bty {T : String} (hm : X.mg x = none) (hv : bootBuiltins x = some (.type T)) (hg : Gl X x := by rfl) (hn : x ≠ "__name__" := by decide) (hd : (x == ("__debug__" : Str)) = false := by decide) : PE X (.Name x pos) (tC (.ty T)) := pe_bltn hg hm hv rfl hn hd
end
def clsV : V → Option Value
  | .ref a => some (.ref a)
  | .ty n => some (.type n)
  | _ => none
theorem clsV_rel {c : V} {cv cu : Value} (h : clsV c = some cv) (r : RelV c cu) : cu = cv := by
  cases c with
  | ref a => cases h; exact r
  | ty n => cases h; exact r
  | _ => cases h
section
variable {X : Cx}
theorem call_isi : CallR X (.builtin "isinstance") (fun xs H Q => ∃ x c t cv b, xs = [x, c] ∧ clsV c = some cv ∧ TyOf X.K H x t ∧ PySem.W.kitOne X.K t cv = some b ∧ Q (.bl b) H) := by
  intro pins s σ H xs us Q I r h
  obtain ⟨x, c, t, cv, b, rfl, rc, ty, e, q⟩ := h
  obtain ⟨u, cu, rfl, ru, rcu⟩ := vals2 r
  obtain rfl := clsV_rel rc rcu
  exact isinst_ok I ru ty e fun tk => ⟨.bl b, H, I.tok tk, rfl, q⟩
/-- what == says: flat values, and lists of what it says of (n deep) -/
inductive DEq (K : PySem.W.Frag) (H : Hp) : Nat → V → V → Bool → Prop where
  | flat {n : Nat} {x y : V} (hx : flatV x = true) (hy : flatV y = true) : DEq K H n x y (eqV x y)
  | same {n : Nat} {a : Addr} : DEq K H n (.ref a) (.ref a) true
  | lists {n : Nat} {a b : Addr} {xs ys : List V} (e : Nat → Bool) (ne : a ≠ b) (ha : SqL K H a xs) (hb : SqL K H b ys) (hl : xs.length = ys.length)
      (he : ∀ (i : Nat) x y, xs[i]? = some x → ys[i]? = some y → DEq K H n x y (e i)) : DEq K H (n + 1) (.ref a) (.ref b) ((List.range xs.length).all e)
  | lens {n : Nat} {a b : Addr} {xs ys : List V} (ne : a ≠ b) (ha : SqL K H a xs) (hb : SqL K H b ys) (hl : xs.length ≠ ys.length) : DEq K H n (.ref a) (.ref b) false
theorem DEq.eqAt {pins : List (Addr × Obj)} {σ : St} {H : Hp} {s : Shared} (I : Inv X pins σ H s) {n : Nat} {x y : V} {b : Bool} (d : DEq X.K H n x y b) : ∀ {A : Around} {u v : Value}, RelV x u → RelV y v → A.units + n < cLine → SeqAt.EqAt A s u v b := by
  induction d with
  | flat hx hy => intro A u v ru rv _; exact eqAt_V ru rv hx hy
  | same =>
    intro A u v ru rv _
    cases ru; cases rv
    exact SeqAt.EqAt.same _
  | @lists n a b xs ys e ne ha hb hl he ih =>
    intro A u v ru rv hu
    cases ru; cases rv
    obtain ⟨its, r1, p1, z1⟩ := I.list ha
    obtain ⟨jts, r2, p2, z2⟩ := I.list hb
    have l1 := r1.length
    have l2 := r2.length
    have hsz : its.toArray.size = jts.toArray.size := by simp only [List.size_toArray]; omega
    have := SeqAt.RcAt.lists (A := A) (e := e) p1.isList p2.isList hsz (by omega) fun j h1 h2 => by
      have j1 : j < xs.length := by rw [l1]; simpa using h1
      have j2 : j < ys.length := by rw [l2]; simpa using h2
      obtain ⟨u1, e1, q1⟩ := r1.get (List.getElem?_eq_getElem j1)
      obtain ⟨u2, e2, q2⟩ := r2.get (List.getElem?_eq_getElem j2)
      have g1 : its.toArray[j] = u1 := by have := List.getElem?_eq_some_iff.mp e1; obtain ⟨_, z⟩ := this; simpa using z
      have g2 : jts.toArray[j] = u2 := by have := List.getElem?_eq_some_iff.mp e2; obtain ⟨_, z⟩ := this; simpa using z
      rw [g1, g2]
      exact ih j xs[j] ys[j] (List.getElem?_eq_getElem j1) (List.getElem?_eq_getElem j2) q1 q2 (by show A.units + 1 + n < cLine; omega)
    rw [List.size_toArray, ← l1] at this
    exact SeqAt.EqAt.of_refs ne this
  | @lens n a b xs ys ne ha hb hl =>
    intro A u v ru rv hu
    cases ru; cases rv
    obtain ⟨its, r1, p1, z1⟩ := I.list ha
    obtain ⟨jts, r2, p2, z2⟩ := I.list hb
    have l1 := r1.length
    have l2 := r2.length
    exact SeqAt.EqAt.of_refs ne (SeqAt.RcAt.lists_lengths p1.isList p2.isList (by simp only [List.size_toArray, bne_iff_ne]; omega) (by omega))
/-- xs == ys, xs != ys of two lists -/
def rEqL (K : PySem.W.Frag) (neg : Bool) : R2 := fun x y H Q => ∃ a b xs ys, x = .ref a ∧ y = .ref b ∧ SqL K H a xs ∧ SqL K H b ys ∧
  ((xs.length ≠ ys.length ∧ Q (.bl neg) H) ∨ (xs.length = ys.length ∧ ∃ e : Nat → Bool, (∀ (i : Nat) x y, xs[i]? = some x → ys[i]? = some y → DEq K H 4 x y (e i)) ∧ Q (.bl (if neg then !(List.range xs.length).all e else (List.range xs.length).all e)) H))
theorem eql_items {pins : List (Addr × Obj)} {σ : St} {H : Hp} {s : Shared} (I : Inv X pins σ H s) {A : Around} {xs ys : List V} {its jts : List Value} {e : Nat → Bool} (r1 : Vals xs its) (r2 : Vals ys jts) (hu : A.units + 5 < cLine)
    (he : ∀ (i : Nat) x y, xs[i]? = some x → ys[i]? = some y → DEq X.K H 4 x y (e i)) : ∀ j (h1 : j < its.toArray.size) (h2 : j < jts.toArray.size), SeqAt.EqAt A.in1 s its.toArray[j] jts.toArray[j] (e j) := fun j h1 h2 => by
  have j1 : j < xs.length := by rw [r1.length]; simpa using h1
  have j2 : j < ys.length := by rw [r2.length]; simpa using h2
  obtain ⟨u1, e1, q1⟩ := r1.get (List.getElem?_eq_getElem j1)
  obtain ⟨u2, e2, q2⟩ := r2.get (List.getElem?_eq_getElem j2)
  have g1 : its.toArray[j] = u1 := by have := List.getElem?_eq_some_iff.mp e1; obtain ⟨_, z⟩ := this; simpa using z
  have g2 : jts.toArray[j] = u2 := by have := List.getElem?_eq_some_iff.mp e2; obtain ⟨_, z⟩ := this; simpa using z
  rw [g1, g2]
  exact (he j xs[j] ys[j] (List.getElem?_eq_getElem j1) (List.getElem?_eq_getElem j2)).eqAt I q1 q2 (by show A.units + 1 + 4 < cLine; omega)
theorem op_neL (hu : X.A.units + 5 < cLine) : OpR X (compareOp .NotEq) (rEqL X.K true) := by
  intro pins s σ H x y v u Q I rx ry h
  obtain ⟨a, b, xs, ys, rfl, rfl, ha, hb, h⟩ := h
  cases rx; cases ry
  obtain ⟨its, r1, p1, z1⟩ := I.list ha
  obtain ⟨jts, r2, p2, z2⟩ := I.list hb
  have l1 := r1.length
  have l2 := r2.length
  rcases h with ⟨hl, q⟩ | ⟨hl, e, he, q⟩
  · exact SeqAt.RcNeAt.lists_lengths p1.isList p2.isList (by simp only [List.size_toArray, bne_iff_ne]; omega) (by omega) X.prog X.w X.xe _ ⟨.bl true, H, I, rfl, q⟩
  · refine SeqAt.RcNeAt.lists (e := e) p1.isList p2.isList (by simp only [List.size_toArray]; omega) (by omega) (eql_items I r1 r2 hu he) X.prog X.w X.xe _ ⟨.bl _, H, I, rfl, ?_⟩
    rw [List.size_toArray, ← l1]
    exact q
def rCount : V → List V → Hp → VK → Prop := fun x vs H Q => ∃ l xs y, x = .ref l ∧ vs = [y] ∧ H l = some (.lst xs) ∧ flatV y = true ∧ xs.all flatV = true ∧ Q (.int (xs.countP fun z => eqV z y : Nat)) H
theorem countP_eqU {x : V} : ∀ {xs : List V} {us : List Value}, Vals xs us → xs.all flatV = true → us.countP (eqU x) = xs.countP fun y => eqV y x
  | _, _, .nil, _ => rfl
  | y :: xs, u :: us, .cons r t, f => by
    rw [List.all_cons, Bool.and_eq_true] at f
    rw [List.countP_cons, List.countP_cons, eqU_of r f.1, countP_eqU t f.2]
theorem mt_count : MtM X "list.count" rCount := by
  intro pins s σ H x vs v us Q I rx rv h
  obtain ⟨l, xs, y, rfl, rfl, hH, fy, fs, q⟩ := h
  cases rx
  obtain ⟨u, rfl, ru⟩ := rv.one
  obtain ⟨z, its, n, r, hl, e⟩ := I.lstM hH
  refine call_meets F.slot_list_count ⟨_, e, rfl⟩ F.entry_list_count (F.args_list_count_2 _ _) (SeqAt.list_countAt l its.toArray n none #[] u (eqU y)) ⟨e, fun w hw => mem_eqAt ru fy r fs w (by simpa using hw), ?_⟩
  refine ⟨.int _, H, I.tok _, ⟨_, rfl⟩, ?_⟩
  rw [show its.toArray.toList = its from rfl, countP_eqU r fs]
  exact q
end
section
variable {X : Cx} {K : PySem.W.Frag}
theorem ix_listK (h : X.K = K := by rfl) : IxR X (rIxL K) := by subst h; exact ix_list
end
end L2
set_option Elab.async false
set_option maxHeartbeats 4000000
namespace L2
open PySem
section
variable {prog : Program} {w : World} {A : Around} {E : Value → Shared → Prop} {s : Shared}
/-- one step of an enumerate over a list, whatever number it counts from -/
theorem en_step {n it l : Addr} {i : Nat} {c : Int} {its : Array Value} {v old : Value} {Q : Value → Shared → Prop}
    (hn : IsEnum s.heap n it c old) (hi : s.heap.IsListIter it l i) (hl : s.heap.IsList l its) (hv : its[i]? = some v) (ne : n ≠ it)
    (k : ∀ g, IsEnumOut g n it (c + 1) v s.heap.objs.size → g.IsListIter it l (i + 1) → g.get? s.heap.objs.size = some { cls := .type "tuple", data := .seq #[.int c s.toks, v] } →
      g.objs.size = s.heap.objs.size + 1 → (∀ b o, b ≠ n → b ≠ it → s.heap.get? b = some o → g.get? b = some o) → Q (.ref s.heap.objs.size) { s with heap := g, toks := s.toks + 1 }) :
    wpAny (model prog w) A (Builtin.«enumerate.__next__» ⟨[.ref n], []⟩) (fun fin s' => ∃ r, fin = .done (.ret r) ∧ Q r s') E s := by
  obtain ⟨hp, gn, dr, tk, os⟩ := s
  show wpAny _ _ (field (.ref n) 2 >>= _) _ _ _
  refine wpAny_bind (wpAny_field hn rfl (x := .ref it) rfl (wpAny_bind (wpAny_nextOf_list_item hi hl hv fun g1 hi1 sb1 => ?_)))
  have sb1' : Heap.SameBut it hp g1 := sb1
  have hn1 : IsEnum g1 n it c old := (sb1'.2 n ne).trans hn
  show wpAny _ _ (field (.ref n) 3 >>= _) _ _ ⟨g1, gn, dr, tk, os⟩
  refine wpAny_bind (wpAny_field hn1 rfl (x := rawInt c) rfl ?_)
  show wpAny _ _ (field (.ref n) 4 >>= _) _ _ ⟨g1, gn, dr, tk, os⟩
  refine wpAny_bind (wpAny_field hn1 rfl (x := .none) rfl ?_)
  show wpAny _ _ (mkInt c >>= _) _ _ ⟨g1, gn, dr, tk, os⟩
  refine wpAny_bind (wpAny_mkInt ?_)
  show wpAny _ _ (setField (.ref n) 3 (rawInt (c + 1)) >>= _) _ _ ⟨g1, gn, dr, tk + 1, os⟩
  refine wpAny_bind (wpAny_setField_rec hn1 (by simp) fun g2 hn2 sb2 => ?_)
  have sb2' : Heap.SameBut n g1 g2 := sb2
  have hn2' : IsEnum g2 n it (c + 1) old := hn2
  show wpAny _ _ (setField (.ref n) 4 .none >>= _) _ _ ⟨g2, gn, dr, tk + 1, os⟩
  refine wpAny_bind (wpAny_setField_rec hn2' (by simp) fun g3 hn3 sb3 => ?_)
  have sb3' : Heap.SameBut n g2 g3 := sb3
  have hn3' : IsEnum g3 n it (c + 1) old := hn3
  show wpAny _ _ (newTuple [.int c tk, v] >>= _) _ _ ⟨g3, gn, dr, tk + 1, os⟩
  refine wpAny_bind (wpAny_newTuple ?_)
  have hn4 : IsEnum (g3.push { cls := .type "tuple", data := .seq #[.int c tk, v] }) n it (c + 1) old := Heap.get?_push_of_some _ hn3'
  have z3 : g3.objs.size = hp.objs.size := by rw [sb3'.1, sb2'.1, sb1'.1]
  have nlt : n < hp.objs.size := Heap.lt_size hn
  generalize q4 : g3.push { cls := .type "tuple", data := .seq #[.int c tk, v] } = g4 at hn4
  have t4 : g4.get? hp.objs.size = some { cls := .type "tuple", data := .seq #[.int c tk, v] } := by rw [← q4, ← z3]; exact Heap.get?_push_size _ rfl
  have z4 : g4.objs.size = hp.objs.size + 1 := by rw [← q4, Heap.size_push, z3]
  have k4 : ∀ b o, b ≠ n → b ≠ it → hp.get? b = some o → g4.get? b = some o := fun b o b1 b2 e => by
    rw [← q4]; exact Heap.get?_push_of_some _ (sb3'.extBut b o b1 (sb2'.extBut b o b1 (sb1'.extBut b o b2 e)))
  have i4 : g4.IsListIter it l (i + 1) := by
    rw [← q4]
    obtain ⟨o, ho, r⟩ := (hi1.extBut sb2'.extBut (Ne.symm ne)).extBut sb3'.extBut (Ne.symm ne)
    exact ⟨o, Heap.get?_push_of_some _ ho, r⟩
  show wpAny _ _ (Builtin.SmallTypes.ownedTupleIsFree (.ref n) >>= _) _ _ ⟨g4, gn, dr, tk + 1, os⟩
  rw [z3]
  clear q4 hn3 hn3' sb3 sb3' hn2 hn2' sb2 sb2' hn1 sb1 sb1' hi1 z3 g3 g2 g1
  unfold Builtin.SmallTypes.ownedTupleIsFree
  refine wpAny_bind (wpAny_bind (wpAny_field hn4 rfl (x := .none) rfl (wpAny_pure ?_)))
  simp only [if_true]
  refine wpAny_bind (wpAny_rule (wpAny_bind (wpAny_field hn4 rfl (x := old) rfl (wpAny_bind (wpAny_setField_rec hn4 (by simp) fun g5 hn5 sb5 => ?_)))))
  have sb5' : Heap.SameBut n g4 g5 := sb5
  have hn5' : IsEnum g5 n it (c + 1) v := hn5
  show wpAny _ _ (Builtin.SmallTypes.ownedTupleHandOut (.ref n) (.ref hp.objs.size) >>= _) _ _ ⟨g5, gn, dr, tk + 1, os⟩
  unfold Builtin.SmallTypes.ownedTupleHandOut
  refine wpAny_bind (wpAny_bind (wpAny_setField_rec hn5' (by simp) fun g6 hn6 sb6 => ?_))
  have sb6' : Heap.SameBut n g5 g6 := sb6
  have hn6' : IsEnumOut g6 n it (c + 1) v hp.objs.size := hn6
  refine wpAny_setField_rec hn6' (by simp) fun g7 hn7 sb7 => ?_
  have sb7' : Heap.SameBut n g6 g7 := sb7
  refine wpAny_bind (wpAny_letGo (wpAny_pure ⟨_, rfl, k g7 hn7 ?_ ?_ ?_ ?_⟩))
  · exact ((i4.extBut sb5'.extBut (Ne.symm ne)).extBut sb6'.extBut (Ne.symm ne)).extBut sb7'.extBut (Ne.symm ne)
  · exact sb7'.extBut _ _ (Nat.ne_of_gt nlt) (sb6'.extBut _ _ (Nat.ne_of_gt nlt) (sb5'.extBut _ _ (Nat.ne_of_gt nlt) t4))
  · rw [sb7'.1, sb6'.1, sb5'.1, z4]
  · exact fun b o b1 b2 e => sb7'.extBut b o b1 (sb6'.extBut b o b1 (sb5'.extBut b o b1 (k4 b o b1 b2 e)))
theorem en_item {n it l : Addr} {i : Nat} {c : Int} {its : Array Value} {v old : Value} {Q : Option Value → Shared → Prop}
    (hn : IsEnum s.heap n it c old) (hi : s.heap.IsListIter it l i) (hl : s.heap.IsList l its) (hv : its[i]? = some v) (ne : n ≠ it)
    (k : ∀ g, IsEnumOut g n it (c + 1) v s.heap.objs.size → g.IsListIter it l (i + 1) → g.get? s.heap.objs.size = some { cls := .type "tuple", data := .seq #[.int c s.toks, v] } →
      g.objs.size = s.heap.objs.size + 1 → (∀ b o, b ≠ n → b ≠ it → s.heap.get? b = some o → g.get? b = some o) → Q (some (.ref s.heap.objs.size)) { s with heap := g, toks := s.toks + 1 }) :
    wpAny (model prog w) A (pyNext (.ref n)) Q E s := by
  have ty : s.TypeIs (.ref n) "enumerate" := ⟨_, hn, rfl⟩
  unfold pyNext
  refine wpAny_bind (wpAny_attempt (wpAny_callSpecial?_slot (name := Str.ofString "__next__") ty F.slot_enumerate_next (wpAny_call_entry F.slot_enumerate_next ty F.entry_enumerate_next ?_ (F.args_enumerate_next_1 _))))
  exact en_step hn hi hl hv ne fun g a b d e f => wpAny_pure (k g a b d e f)
theorem en_end {n it l : Addr} {i : Nat} {c : Int} {its : Array Value} {old : Value} {Q : Option Value → Shared → Prop} (hh : A.handled = none)
    (hn : IsEnum s.heap n it c old) (hi : s.heap.IsListIter it l i) (hl : s.heap.IsList l its) (hv : its[i]? = none) (k : ∀ g, Heap.ExtBut it s.heap g → Q none { s with heap := g }) : wpAny (model prog w) A (pyNext (.ref n)) Q E s := by
  have ty : s.TypeIs (.ref n) "enumerate" := ⟨_, hn, rfl⟩
  unfold pyNext
  refine wpAny_bind (wpAny_attempt (wpAny_callSpecial?_slot (name := Str.ofString "__next__") ty F.slot_enumerate_next (wpAny_call_entry F.slot_enumerate_next ty F.entry_enumerate_next ?_ (F.args_enumerate_next_1 _))))
  show wpAny _ _ (field (.ref n) 2 >>= _) _ _ _
  refine wpAny_bind (wpAny_field hn rfl (x := .ref it) rfl (wpAny_bind (wpAny_nextOf_list_end hh hi hl hv fun g x eb hx => ?_)))
  obtain ⟨o, ho, hc⟩ := hx
  exact wpAny_bind (wpAny_isInstance (T := "StopIteration") (b := true) ⟨o, ho, hc⟩ isSubtype_stop (wpAny_pure (k _ eb)))
/-- enumerate(xs, start=c) -/
theorem en_new (l : Addr) (its : Array Value) (k : Nat) (c : Int) (t : Tok) (hc : -(2 ^ 62) ≤ c ∧ c < 2 ^ 62) :
    Meets (Builtin.«enumerate.__new__» ⟨[.type "enumerate", .ref l], [("start", .int c t)]⟩) (fun _ R s => s.heap.get? l = some { cls := .type "list", dict := none, data := .seq its k, slots := #[] } ∧
      R (.ok (.ret (.ref (s.heap.push { cls := .type "list_iterator", data := .fields #[.ref l, .int 0 0] }).objs.size)))
        { s with heap := (s.heap.push { cls := .type "list_iterator", data := .fields #[.ref l, .int 0 0] }).push { cls := .type "enumerate", data := .fields #[.none, .bool false, .ref s.heap.objs.size, rawInt c, .none, .none] } }) :=
  .of_wp fun prog w A R s h => by
    obtain ⟨hp, g, d, tk, os⟩ := s; obtain ⟨hl, h⟩ := h
    have f1 := sub_enumerate
    have hL : Heap.IsList (Shared.heap ⟨hp, g, d, tk, os⟩) l its := ⟨_, hl, rfl, k, rfl⟩
    wp_walk using AutoSeq1.wpAny_loadPart' hl
    have ff : Builtin.SmallTypes.fitsIndex c = true := by
      unfold Builtin.SmallTypes.fitsIndex; simp; omega
    refine wpAny_stack_any fun st => wpAny_pure ?_
    split
    · rename_i cc _ _ _ _ _
      cases (cc == Value.type "enumerate")
      · wp_walk using AutoSeq1.wpAny_loadPart' hl, wpAny_pyIter_list hL
        exact ⟨_, rfl, h⟩
      · wp_walk using AutoSeq1.wpAny_loadPart' hl, wpAny_pyIter_list hL
        exact ⟨_, rfl, h⟩
    · wp_walk using AutoSeq1.wpAny_loadPart' hl, wpAny_pyIter_list hL
      exact ⟨_, rfl, h⟩
end
end L2
set_option Elab.async false
set_option maxHeartbeats 4000000
set_option maxRecDepth 100000
namespace L2
open PySem
section
variable {prog : Program} {w : World} {A : Around} {E : Value → Shared → Prop} {s : Shared}
theorem start_check (l : Addr) (c : Int) (t : Tok) : checkTypeCall "enumerate" ⟨[.ref l], [("start", .int c t)]⟩ = pure () := by kernel_rfl
theorem start_new (l : Addr) (c : Int) (t : Tok) : checkBuiltinCall "enumerate.__new__" ⟨[.type "enumerate", .ref l], [("start", .int c t)]⟩ = pure () := by kernel_rfl
theorem start_init (o : Value) (l : Addr) (c : Int) (t : Tok) : argsOk "object.__init__" ⟨[o, .ref l], [("start", .int c t)]⟩ := by kernel_rfl
theorem callType_named {T newId initId : String} {Bn Bi : Builtin} {args : List Value} {kw : List (Str × Value)} {S : Spec} {Q R : Value → Shared → Prop} (ft : TypeCalled T newId initId)
    (h1 : checkTypeCall T ⟨args, kw⟩ = pure ()) (h2 : checkBuiltinCall newId ⟨.type T :: args, kw⟩ = pure ())
    (eN : entryFor table newId = some Bn) (eI : entryFor table initId = some Bi) (g : Meets (Bn ⟨.type T :: args, kw⟩) S) (h : S A.in1 (wants R E) s)
    (k : ∀ o s', R o s' → s'.TypeIs o T ∧ argsOk initId ⟨o :: args, kw⟩ ∧ ∃ Si, Meets (Bi ⟨o :: args, kw⟩) Si ∧ Si A.in1 (wants (fun r s'' => r = .none ∧ Q o s'') E) s') :
    wpAny (model prog w) A (call (.type T) args kw) Q E s := by
  obtain ⟨c, tl, hmro⟩ := ft.mro
  have hmade := ft.made
  have hsub := ft.sub
  refine wpAny_call (codeAny_of_tree ?_)
  show wpAny _ _ (callAny (.type T) _) _ _ _
  refine wpAny_pure ⟨Code.quiet_builtin _ (by decide +kernel), codeAny_builtin F.entry_type_call ?_⟩
  rw [Around.under_plain (weight_type_call_type T args kw) (units_type_call_type T args kw)]
  have n1 := ft.notType
  have n2 := ft.canCreate
  repeat (any_goals (first | assumption | wp_step))
  refine codeAny_mono (codeAny_call_builtin ft.plain eN (wpAny_of_eq h2 (g prog w A.in1 _ s h))) fun r s1 hr => ?_
  cases r with
  | error e => exact hr
  | ok fl =>
    cases fl with
    | ret o =>
      obtain ⟨hT, hok, Si, gi, hsi⟩ := k _ _ hr
      have hli := ft.init.lookup
      have hbi := ft.init.bind o
      repeat (any_goals (first | assumption | wp_step))
      refine codeAny_mono (codeAny_call_builtin ft.init.plain eI (ft.init.check _ _ _ _ _ _ _ _ hT hok (gi prog w A.in1 _ s1 hsi))) fun r2 s2 hr2 => ?_
      cases r2 with
      | error e => exact hr2
      | ok fl2 =>
        cases fl2 with
        | ret r =>
          obtain ⟨rfl, hq⟩ := hr2
          repeat (any_goals (first | assumption | wp_step))
        | _ => exact hr2.elim
    | _ => exact hr.elim
theorem init_named {T newId : String} {o : Value} {rest : List Value} {kw : List (Str × Value)} (hl : typeLookup (.type T) "__init__" = pure (some (.builtin "object.__init__")))
    (hm : Bind.madeBy (.type T) = pure (some newId)) (hne : (some newId != some "object.__new__") = true) :
    Meets (Builtin.«object.__init__» ⟨o :: rest, kw⟩) (fun _ R s => s.TypeIs o T ∧ R (.ok (.ret .none)) s) := by
  refine Meets.of_wp fun prog w A R s hs => ?_
  obtain ⟨hT, hq⟩ := hs
  cases rest with
  | nil =>
    cases kw with
    | nil => exact wpAny_pure ⟨_, rfl, hq⟩
    | cons p r =>
      repeat (any_goals (first | assumption | wp_step))
      exact ⟨_, rfl, hq⟩
  | cons a rest =>
    repeat (any_goals (first | assumption | wp_step))
    exact ⟨_, rfl, hq⟩
theorem call_en_start {l : Addr} {its : Array Value} {k : Nat} {c : Int} {t : Tok} {Q : Value → Shared → Prop} (hc : -(2 ^ 62) ≤ c ∧ c < 2 ^ 62) (hL : s.heap.get? l = some { cls := .type "list", dict := none, data := .seq its k, slots := #[] })
    (h : ∀ g, IsEnum g (s.heap.objs.size + 1) s.heap.objs.size c .none → g.IsListIter s.heap.objs.size l 0 → g.objs.size = s.heap.objs.size + 2 →
      (∀ b o, s.heap.get? b = some o → g.get? b = some o) → Q (.ref (s.heap.objs.size + 1)) { s with heap := g }) :
    wpAny (model prog w) A (call (.type "enumerate") [.ref l] [("start", .int c t)]) Q E s := by
  have hz : (s.heap.push { cls := .type "list_iterator", data := .fields #[.ref l, .int 0 0] }).objs.size = s.heap.objs.size + 1 := Heap.size_push ..
  refine callType_named (R := fun o s' => s'.TypeIs o "enumerate" ∧ Q o s') F.called_enumerate (start_check l c t) (start_new l c t) F.entry_enumerate_new F.entry_object_init (en_new l its k c t hc) ⟨hL, ?_⟩
    fun o s' hq => ⟨hq.1, start_init o l c t, _, init_named F.called_enumerate.init.lookup F.called_enumerate.made (by decide), hq.1, rfl, hq.2⟩
  show _ ∧ _
  rw [hz]
  have q : IsEnum ((s.heap.push { cls := .type "list_iterator", data := .fields #[.ref l, .int 0 0] }).push
      { cls := .type "enumerate", data := .fields #[.none, .bool false, .ref s.heap.objs.size, rawInt c, .none, .none] }) (s.heap.objs.size + 1) s.heap.objs.size c .none := by
    have := Heap.get?_push_size (s.heap.push { cls := .type "list_iterator", data := .fields #[.ref l, .int 0 0] })
      (o := { cls := .type "enumerate", data := .fields #[.none, .bool false, .ref s.heap.objs.size, rawInt c, .none, .none] }) rfl
    rw [hz] at this; exact this
  exact ⟨⟨_, q, rfl⟩, h _ q ⟨_, Heap.get?_push_of_some _ (Heap.get?_push_size _ rfl), rfl, rfl⟩ (by rw [Heap.size_push, hz]) fun b o x => Heap.get?_push_of_some _ (Heap.get?_push_of_some _ x)⟩
end
end L2
set_option Elab.async false
set_option maxHeartbeats 4000000
namespace L2
open PySem PySem.Spec PyProof.Rows
def Ite (K : PySem.W.Frag) (a : Addr) (c : Int) : It :=
  ⟨fun i H => ∃ xs x, SqL K H a xs ∧ xs[i]? = some x, fun i H x H' => ∃ p v, H p = none ∧ x = .ref p ∧ H' = upd H p (.tup [.int (c + i), v]) ∧ ∀ xs, SqL K H a xs → xs[i]? = some v, fun i H => ∃ xs, SqL K H a xs ∧ xs.length ≤ i⟩
theorem go_enum {prog : Program} {w : World} {A : Around} {E : Value → Shared → Prop} {s : Shared} {es : List Expr} {k : Nat} {pos : Pos} {n it t : Addr} {c : Int} {v : Value} {Q : Unit → Shared → Prop} (hn : IsEnumOut s.heap n it c v t)
    (hQ : ∀ g, IsEnum g n it c v → Heap.SameBut n s.heap g → Q () { s with heap := g }) : wpAny (model prog w) A (letOwnedTupleGo (.Tuple es k pos) (.ref n) (.ref t)) Q E s := by
  unfold letOwnedTupleGo
  refine wpAny_bind (wpAny_load hn ?_)
  simp only [List.contains_cons, beq_self_eq_true, Bool.true_or, Bool.true_and]
  rw [if_pos (by simp)]
  refine wpAny_bind (wpAny_rule ?_)
  show wpAny _ _ (setField (.ref n) 0 .none) _ _ _
  exact wpAny_setField_rec hn (by simp) fun g e sb => hQ g e sb
theorem turn_enum {P : Program} {w : World} {K : PySem.W.Frag} {es : List Expr} {kk : Nat} {tp : Pos} (a n it : Addr) (c : Int) (ne : n ≠ it) :
    Turn P w K (.Tuple es kk tp) (Ite K a c) [n, it] n (fun i h => (∃ old, IsEnum h n it (c + (i : Nat)) old) ∧ h.IsListIter it a i) where
  mem := by simp
  obj := fun i h st b hb => by
    obtain ⟨⟨old, hn⟩, o, ho, hc, hd⟩ := st
    rcases List.mem_cons.mp hb with rfl | hb
    · exact ⟨_, hn, fun v z => nomatch z⟩
    · have e : b = it := by simpa using hb
      subst e
      exact ⟨o, ho, fun v z => by rw [hd] at z; cases z⟩
  keep := fun i h h' st k => by
    obtain ⟨⟨old, hn⟩, hi⟩ := st
    exact ⟨⟨old, k n (by simp) _ hn⟩, hi.at fun o e => k it (by simp) o e⟩
  item := by
    intro X hP hw hK hc i pins s σ H E I hf st hg
    subst hP hw hK
    obtain ⟨xs, x, hq, hx⟩ := hg
    obtain ⟨its, rv, p, hz⟩ := I.list hq
    obtain ⟨u, hu, ru⟩ := rv.get hx
    obtain ⟨⟨old, hn⟩, hi⟩ := st
    obtain ⟨f0, f1, f2, f3, f4, f5⟩ := hf n (by simp)
    obtain ⟨g0, g1, g2, g3, g4, g5⟩ := hf it (by simp)
    refine en_item hn hi p.isList (v := u) (by simpa using hu) ne fun q o1 o2 o3 o4 o5 => ?_
    refine ⟨_, rfl, go_enum (s := { s with heap := q, toks := s.toks + 1 }) o1 fun z e2 sb2 => ?_⟩
    have sb2' : Heap.SameBut n q z := sb2
    have kept : ∀ b o, b ∉ [n, it] → s.heap.get? b = some o → z.get? b = some o := fun b o hb e => by
      simp only [List.mem_cons, List.not_mem_nil, or_false, not_or] at hb
      exact (sb2'.2 b hb.1).trans (o5 b o hb.1 hb.2 e)
    have fresh : H s.heap.objs.size = none := I.hok.fresh (Nat.le_refl _)
    have tup : z.get? s.heap.objs.size = some { cls := .type "tuple", data := .seq #[.int (c + (i : Nat)) s.toks, u] } := (sb2'.2 _ (Nat.ne_of_gt (Heap.lt_size hn))).trans o3
    have off : ∀ b v, H b = some v → b ∉ [n, it] := fun b v e hb => by
      simp only [List.mem_cons, List.not_mem_nil, or_false] at hb
      rcases hb with rfl | rfl
      · rw [f0] at e; cases e
      · rw [g0] at e; cases e
    have I1 : Inv X pins σ (upd H s.heap.objs.size (.tup [.int (c + (i : Nat)), x])) { s with heap := z, toks := s.toks + 1 } := by
      refine I.step (g' := s.gens) (d' := s.drawn) (ch := [n, it]) (fun b hb => ?_) (fun b o _ _ hb e _ => kept b o hb e) (fun b o _ _ hb e _ => ⟨o.slots, kept b o hb e⟩) (fun b o hb e q => ?_) (fun b o hb e => ⟨o, kept b o hb e⟩)
        (fun b ys e => by rw [upd_ne (ne_of_none e fresh)]; exact e) (fun b o v e => by rw [upd_ne (ne_of_none e fresh)]; exact e) (fun b ps e => ⟨#[], by rw [upd_ne (ne_of_none e fresh), e]; simp⟩) (fun m hm => ?_) (fun b v e => ?_) I.bare
      · simp only [List.mem_cons, List.not_mem_nil, or_false] at hb
        rcases hb with rfl | rfl
        · exact ⟨f3, f1, f4, f5⟩
        · exact ⟨g3, g1, g4, g5⟩
      · rw [upd_ne (Nat.ne_of_lt (Heap.lt_size e))]; exact q
      · obtain ⟨o, es', ep, ho, r⟩ := hm
        refine ⟨o, es', ep, kept _ o (fun hb => ?_) ho, r⟩
        simp only [List.mem_cons, List.not_mem_nil, or_false] at hb
        rcases hb with q | q
        · exact f1 q.symm
        · exact g1 q.symm
      · by_cases hb : b = s.heap.objs.size
        · subst hb
          rw [upd_same] at e; cases e
          refine ⟨by show 2 ≤ sizeLine; decide, [.int (c + (i : Nat)) s.toks, u], .cons ⟨_, rfl⟩ (.cons ru .nil), ⟨_, tup, rfl, _, rfl⟩⟩
        · rw [upd_ne hb] at e
          refine (I.hok b v e).stay (fun d v' hd q => kept d v' ?_ q) (fun d q => by rw [upd_ne (ne_of_none q fresh)]; exact q) fun d ys q => by rw [upd_ne (ne_of_none q fresh)]; exact q
          rcases hd with rfl | hd
          · exact off _ _ e
          · exact off _ _ hd
    refine ⟨.ref s.heap.objs.size, _, I1, rfl, ⟨_, x, fresh, rfl, rfl, fun ys hy => by rw [I.list_inj hy hq]; exact hx⟩, ⟨⟨u, ?_⟩, o2.extBut sb2'.extBut (Ne.symm ne)⟩, fun b hb => ?_⟩
    · have e : c + ((i + 1 : Nat) : Int) = c + (i : Nat) + 1 := by omega
      rw [e]; exact e2
    · have hb' := hb
      simp only [List.mem_cons, List.not_mem_nil, or_false] at hb
      have lt : b < s.heap.objs.size := by
        rcases hb with rfl | rfl
        · exact Heap.lt_size hn
        · obtain ⟨o, ho, _⟩ := hi; exact Heap.lt_size ho
      rw [upd_ne (Nat.ne_of_lt lt)]
      exact (hf b hb').1
  done := by
    intro X hP hw hK hc i pins s σ H E I hf st hg
    subst hP hw hK
    obtain ⟨xs, hq, hx⟩ := hg
    obtain ⟨its, rv, p, hz⟩ := I.list hq
    obtain ⟨⟨old, hn⟩, hi⟩ := st
    obtain ⟨g0, g1, g2, g3, g4, g5⟩ := hf it (by simp)
    have hl := rv.length
    exact en_end (I.ok.hd hc) hn hi p.isList (by simp; omega) fun g eb => ⟨rfl, I.turned (t' := s.toks) (fun b o hb e => eb b o hb e) g0 g1 g3 g4 g5⟩
  self := fun A i s Q E st h => by
    obtain ⟨⟨old, hn⟩, _⟩ := st
    exact wpAny_pyIter_enum hn h
/-- the list that is counted -/
def iEnum (K : PySem.W.Frag) (c : Int) (ta : TA) : TI := fun σ H R => ta σ H fun vs H1 => ∃ a xs, vs = [.ref a] ∧ H1 a = some (.lst xs) ∧ R (Ite K a c) H1
section
variable {X : Cx} {es : List Expr} {kk : Nat} {tp : Pos}
theorem enum_it {pins : List (Addr × Obj)} {σ : St} {H : Hp} {s : Shared} {R : It → Hp → Prop} {E : Value → Shared → Prop} {a : Addr} {c : Int} {g : Heap} (I : Inv X pins σ H s) (q : R (Ite X.K a c) H)
    (o1 : IsEnum g (s.heap.objs.size + 1) s.heap.objs.size c .none) (o2 : g.IsListIter s.heap.objs.size a 0) (k : ∀ b o, s.heap.get? b = some o → g.get? b = some o) :
    wpAny (model X.prog X.w) X.A (pyIter (.ref (s.heap.objs.size + 1))) (PIE X pins σ (.Tuple es kk tp) R) E { s with heap := g } := by
  refine wpAny_pyIter_enum o1 ?_
  refine ⟨s.heap.objs.size + 1, [s.heap.objs.size + 1, s.heap.objs.size], _, _, H, rfl, I.kept (t' := s.toks) k, turn_enum a _ _ c (Nat.succ_ne_self _), ⟨⟨.none, ?_⟩, o2⟩, fun b hb => ?_, q⟩
  · have e : c + ((0 : Nat) : Int) = c := by omega
    rw [e]; exact o1
  · simp only [List.mem_cons, List.not_mem_nil, or_false] at hb
    rcases hb with rfl | rfl
    · exact I.fpOk (Nat.le_succ _) (I.hok.fresh (Nat.le_succ _))
    · exact I.fpOk (Nat.le_refl _) (I.hok.fresh (Nat.le_refl _))
theorem pi_enumS {a : Expr} {ta : TA} {p pos kp cp : Pos} {c : Int} {j : Nat} (hm : X.mg "enumerate" = none) (ha : PA X [a] ta) (hc : -(2 ^ 62) ≤ c ∧ c < 2 ^ 62 := by decide) (hg : Gl X "enumerate" := by rfl)
    (he : starEach [a] X.env = (false, eval a X.env) :: starEach [] X.env := by rfl) (hpl : ((backTo pos (starEach [a] X.env)).any (·.1) || (backToKw pos (keywordEach [⟨some "start", .Constant (.int c) j cp, kp⟩] X.env)).any (·.1.isNone)) = false := by rfl) :
    PI X (.Tuple es kk tp) (.Call (.Name "enumerate" p) [a] [⟨some "start", .Constant (.int c) j cp, kp⟩] pos) (iEnum X.K c ta) := by
  intro pins s σ H R I h
  refine wpAny_Call_Name_kw (ld_blt I hg hm boot_enumerate ?_)
  refine PySem.W.callWith_of (P := fun _ => True) hpl (fun h _ => ⟨.machine, .inr (.inl rfl), PySem.W.Looks.of_pure rfl⟩) (evalArgs_kw2 rfl (thn (ha pos pins s σ H _ I h) fun us s1 ⟨vs, H1, I1, r, q⟩ => ?_) he)
  have hk : PK X [⟨some "start", .Constant (.int c) j cp, kp⟩] (tCons (tC (.int c)) tNil) := pk_cons pe_int pk_nil
  obtain ⟨l, xs, rfl, hl, q⟩ := q
  obtain ⟨u, rfl, ru⟩ := vals1 r
  cases ru
  refine thn (hk pos pins s1 σ H1 (fun vs H' => vs = [.int c] ∧ H' = H1) I1 ⟨rfl, rfl⟩) fun ws s2 ⟨zs, H2, I2, rz, ez, eh⟩ => ⟨trivial, ?_⟩
  subst ez; subst eh
  obtain ⟨w1, rfl, t, rfl⟩ := vals1 rz
  obtain ⟨z, its, n, r', hn, e⟩ := I2.lstM hl
  show wpAny _ _ (call (.type "enumerate") [.ref l] [("start", .int c t)]) _ _ _
  exact call_en_start hc e fun g o1 o2 o3 o4 => enum_it I2 q o1 o2 o4
end
theorem for_enum {K : PySem.W.Frag} {a : Addr} {xs : List V} {c : Int} {g : TG} {tb : TS} {D : Ends} {σ : St} {H : Hp} (Pv : Nat → St → Hp → Prop) (h0 : Pv 0 σ H) (hl : ∀ i σ H, i ≤ xs.length → Pv i σ H → SqL K H a xs)
    (hs : ∀ i x σ H p, xs[i]? = some x → Pv i σ H → H p = none → g (.ref p) σ (upd H p (.tup [.int (c + (i : Nat)), x])) fun σ2 H2 => tb { D with nx := Pv (i + 1), ct := Pv (i + 1), bk := D.nx } σ2 H2) (hd : ∀ σ H, Pv xs.length σ H → D.nx σ H) :
    ∃ W : Nat → Nat → St → Hp → Prop, (∃ m, W 0 m σ H) ∧ ∀ i m σ H, W i m σ H →
      ((Ite K a c).stop i H ∧ D.nx σ H) ∨ ((Ite K a c).go i H ∧ ∃ N : St → Hp → Prop, (∀ σ' H', N σ' H' → ∃ m', m' < m ∧ W (i + 1) m' σ' H') ∧ ∀ x H', (Ite K a c).yld i H x H' → g x σ H' fun σ2 H2 => tb { D with nx := N, ct := N, bk := D.nx } σ2 H2) := by
  refine ⟨fun i m σ H => m = xs.length - i ∧ i ≤ xs.length ∧ Pv i σ H, ⟨xs.length, by simp, Nat.zero_le _, h0⟩, ?_⟩
  rintro i m σ H ⟨rfl, hi, p⟩
  have q := hl i σ H hi p
  by_cases hlt : i < xs.length
  · refine .inr ⟨⟨xs, xs[i], q, by simp [hlt]⟩, Pv (i + 1), fun σ' H' p' => ⟨xs.length - (i + 1), by omega, rfl, hlt, p'⟩, fun x H' y => ?_⟩
    obtain ⟨pp, v, e1, e2, e3, y⟩ := y
    subst e2 e3
    exact hs i v σ H pp (y xs q) p e1
  · have e : i = xs.length := by omega
    subst e
    exact .inl ⟨⟨xs, q, Nat.le_refl _⟩, hd σ H p⟩
end L2
set_option Elab.async false
set_option maxHeartbeats 4000000
namespace L2
open PySem PySem.Spec PyProof.Rows
section
variable {h : Heap} {a b e T : Addr} {o : Obj} {vs : Array Value} {i : Nat} {x : Value}
theorem fld_at (ho : h.get? a = some o) (hd : o.data = .fields vs) : ∃ o', (h.update a (Obj.mapFields (·.setIfInBounds i x))).get? a = some o' ∧ o'.cls = o.cls ∧ o'.data = .fields (vs.setIfInBounds i x) :=
  ⟨_, Heap.get?_update_self _ ho (Obj.isFreed_of_fields (Obj.data_mapFields hd _)), Obj.cls_mapFields _ _, Obj.data_mapFields hd _⟩
theorem fld_ne {g : Obj → Obj} (n : b ≠ a) : (h.update a g).get? b = h.get? b := Heap.get?_update_other _ _ (Ne.symm n)
theorem fld_off {ob : Obj} (ho : h.get? a = some o) (hd : o.data = .fields vs) (hb : h.get? b = some ob) (hn : ∀ us, ob.data ≠ .fields us) : b ≠ a := fun z => by
  subst z
  rw [ho] at hb
  cases hb
  exact hn vs hd
theorem fld_up {g : Obj → Obj} (ho : h.get? a = some o) (hd : o.data = .fields vs) : h.UpToSlots (h.update a g) := fun _ ob hb hn => ⟨ob.slots, (fld_ne (fld_off ho hd hb hn)).trans hb⟩
theorem up_frames {h h' B : Heap} {l : List Env} (u : h.UpToSlots h') (f : h.FunFrames B l) : h'.FunFrames B l := f.of_keeps fun c q hc hn => by
  obtain ⟨sl, z⟩ := u c q hc hn
  exact ⟨_, z, rfl⟩
theorem fld_st {B : Heap} {g : Obj → Obj} (st : B.StaysIn h) (n : B.get? a = none) : B.StaysIn (h.update a g) := fun c q hc => (fld_ne fun z => by rw [z, n] at hc; cases hc).trans (st c q hc)
end
/-- what stands behind it as its context -/
def CtxV (h : Heap) (e : Addr) (c : Value) : Prop := ∃ o vs, h.get? e = some o ∧ o.data = .fields vs ∧ vs[2]? = some c
/-- an exception with a trace whose last entry says fl -/
structure Tr (B : Heap) (l : List Env) (e : Addr) (cls a0 c fl : Value) (h : Heap) : Prop where
  st : B.StaysIn h
  nw : B.get? e = none
  fr : h.FunFrames B l
  tr : h.TracedAtW B e cls a0 fl
  cx : CtxV h e c
section
variable {M : Model} {A : Around} {E : Value → Shared → Prop} {s : Shared} {B : Heap} {l outer : List Env} {env : Env} {e L : Addr} {cls a0 c fl : Value} {Q : Unit → Shared → Prop}
theorem Tr.fly {h : Heap} (t : Tr B l e cls a0 c .none h) : Heap.FlyingW B l e cls a0 h := ⟨t.st, t.nw, t.fr, t.tr⟩
theorem Tr.tail {h : Heap} (t : Tr B (env :: l) e cls a0 c fl h) : Tr B l e cls a0 c fl h := by
  obtain ⟨_, _, f⟩ := t.fr
  exact ⟨t.st, t.nw, f, t.tr, t.cx⟩
/-- its last entry told anew -/
theorem Tr.put {h : Heap} (t : Tr B l e cls a0 c fl h) : ∃ oe vs T oT ts, h.get? e = some oe ∧ oe.data = .fields vs ∧ vs[1]? = some (.ref T) ∧ h.get? T = some oT ∧ oT.data = .fields ts ∧ ts[3]? = some fl ∧
    ∀ x, Tr B l e cls a0 c x (h.update T (Obj.mapFields (·.setIfInBounds 3 x))) ∧ h.UpToSlots (h.update T (Obj.mapFields (·.setIfInBounds 3 x))) := by
  obtain ⟨oe, vs, T, oT, ts, he, hc, hd, h1, hn, hne, hT, hdT, h3⟩ := t.tr
  refine ⟨oe, vs, T, oT, ts, he, hd, h1, hT, hdT, h3, fun x => ?_⟩
  obtain ⟨oT', z1, _, z3⟩ := fld_at (i := 3) (x := x) hT hdT
  have hb : 3 < ts.size := (Array.getElem?_eq_some_iff.mp h3).1
  have ze := (fld_ne (h := h) (g := Obj.mapFields (·.setIfInBounds 3 x)) (Ne.symm hne)).trans he
  obtain ⟨oc, us, c1, c2, c3⟩ := t.cx
  rw [he] at c1
  cases c1
  exact ⟨⟨fld_st t.st hn, t.nw, up_frames (fld_up hT hdT) t.fr, ⟨oe, vs, T, oT', _, ze, hc, hd, h1, hn, hne, z1, z3, by simp [hb]⟩, ⟨oe, us, ze, c2, c3⟩⟩, fld_up hT hdT⟩
theorem Tr.flight {f : Option Addr} (t : Tr B l e cls a0 c fl s.heap) (k : ∀ h', Tr B l e cls a0 c (f.elim .none fun c => rawInt c) h' → s.heap.UpToSlots h' → Q () { s with heap := h' }) : wpAny M A (setFlight (.ref e) f) Q E s := by
  obtain ⟨oe, vs, T, oT, ts, he, hd, h1, hT, hdT, h3, p⟩ := t.put
  unfold setFlight
  refine wpAny_bind (wpAny_field he hd h1 ?_)
  rw [if_pos (by simp)]
  exact wpAny_setField hT hdT (Array.getElem?_eq_some_iff.mp h3).1 (k _ (p _).1 (p _).2)
/-- a new entry for this frame -/
theorem entryC {oe : Obj} {vs : Array Value} {head : Value} {more : Bool} (hfr : A.frames = some (env :: outer)) (hf : env.frame = some L) (st : B.StaysIn s.heap) (nw : B.get? e = none) (fr : s.heap.FunFrames B (env :: outer))
    (he : s.heap.get? e = some oe) (hd : oe.data = .fields vs) (h0 : vs[0]? = some a0) (h1 : 1 < vs.size) (h2 : vs[2]? = some c)
    (k : ∀ h', Tr B (env :: outer) e oe.cls a0 c (rawInt L) h' → s.heap.UpToSlots h' → Q () { s with heap := h' }) :
    wpAny M A (do let a ← PySem.frameOf env; let pl ← entryPlaceOf L more; let b ← EntryCells.newEntry head a .none (rawInt L) .none pl; setField (.ref e) 1 b) Q E s := by
  have off : e ∉ (env :: outer).filterMap (·.frame) := fun z => by
    obtain ⟨_, o, ho, hn⟩ := fr.mem z
    exact fld_off he hd ho hn rfl
  refine wpAny_bind (wpAny_frameOf_fun hfr fr hf fun g sl => wpAny_bind (wpAny_entryPlaceOf fun pl hpl => ?_))
  have ge : g.get? e = some oe := (sl.2.1 e off).trans he
  have gst : B.StaysIn g := fun c q hc => (sl.2.1 c fun z => by rw [(fr.mem z).1] at hc; cases hc).trans (st c q hc)
  have gup : s.heap.UpToSlots g := fun c q hc _ => sl.2.2 c q hc
  unfold EntryCells.newEntry newFields
  refine wpAny_bind (wpAny_newObj_type ?_ (hpl.sizeOk5 _ _ _ _ _))
  generalize hN : ([head, .ref L, .none, rawInt L, .none] ++ (if pl.isEmpty then List.replicate 6 Value.none else pl)).toArray = row
  have r3 : row[3]? = some (rawInt L) := by rw [← hN]; simp
  have pe := Heap.get?_push_of_some (h := g) { cls := .type "traceback", dict := none, data := .fields row } ge
  have pT : (g.push { cls := .type "traceback", dict := none, data := .fields row }).get? g.objs.size = some { cls := .type "traceback", dict := none, data := .fields row } := Heap.get?_push_size g rfl
  have pst : B.StaysIn (g.push { cls := .type "traceback", dict := none, data := .fields row }) := fun c q hc => Heap.get?_push_of_some _ (gst c q hc)
  have pup : g.UpToSlots (g.push { cls := .type "traceback", dict := none, data := .fields row }) := Heap.UpToSlots.of_keeps fun c q hc => Heap.get?_push_of_some _ hc
  have nT : B.get? g.objs.size = none := gst.fresh
  have neT : g.objs.size ≠ e := Nat.ne_of_gt (Heap.lt_size ge)
  generalize g.push { cls := .type "traceback", dict := none, data := .fields row } = p at pe pT pst pup ⊢
  obtain ⟨o', z1, z2, z3⟩ := fld_at (i := 1) (x := Value.ref g.objs.size) pe hd
  have up := (gup.trans pup).trans (fld_up (g := Obj.mapFields (·.setIfInBounds 1 (Value.ref g.objs.size))) pe hd)
  refine wpAny_setField pe hd h1 (k _ ⟨fld_st pst nw, nw, up_frames up fr, ⟨o', _, g.objs.size, _, row, z1, ⟨z2, by rw [Array.getElem?_setIfInBounds_ne (by decide)]; exact h0⟩, z3, by simp [h1], nT, neT, (fld_ne neT).trans pT, rfl, r3⟩, ⟨o', _, z1, z3, by rw [Array.getElem?_setIfInBounds_ne (by decide)]; exact h2⟩⟩ up)
/-- this frame's entry, whatever the last one says -/
theorem Tr.note (t : Tr B (env :: outer) e cls a0 c fl s.heap) (hfr : A.frames = some (env :: outer)) (hf : env.frame = some L) (k : ∀ h', Tr B (env :: outer) e cls a0 c (rawInt L) h' → s.heap.UpToSlots h' → Q () { s with heap := h' }) :
    wpAny M A (noteFrame (.ref e) env) Q E s := by
  by_cases hl : fl = rawInt L
  · subst hl
    exact wpAny_noteFrame_againW hf t.tr (k _ t (.refl _))
  obtain ⟨oe, vs, T, oT, ts, he, hd, h1, hT, hdT, h3, p⟩ := t.put
  unfold noteFrame
  simp only [hf]
  refine wpAny_bind (wpAny_field he hd h1 ?_)
  rw [if_pos (by simp)]
  refine wpAny_bind (wpAny_field hT hdT h3 ?_)
  rw [if_neg (by simpa using hl)]
  refine wpAny_bind (wpAny_setField hT hdT (Array.getElem?_eq_some_iff.mp h3).1 ?_)
  obtain ⟨t2, up⟩ := p Value.none
  obtain ⟨oe2, vs2, _, _, _, he2, ⟨hc2, h02⟩, hd2, h12, _⟩ := t2.tr
  obtain ⟨oc, us, c1, c2, c3⟩ := t2.cx
  have ec := he2.symm.trans c1
  cases ec
  have ed := hd2.symm.trans c2
  cases ed
  subst hc2
  exact entryC (s := { s with heap := s.heap.update T (Obj.mapFields (·.setIfInBounds 3 Value.none)) }) hfr hf t2.st t2.nw t2.fr he2 hd2 h02 (Array.getElem?_eq_some_iff.mp h12).1 c3 fun h' t3 up3 => k h' t3 (up.trans up3)
theorem Tr.leave (t : Tr B (env :: outer) e cls a0 c fl s.heap) (hfr : A.frames = some (env :: outer)) (hf : env.frame = some L) (k : ∀ h', Tr B outer e cls a0 c .none h' → s.heap.UpToSlots h' → Q () { s with heap := h' }) :
    wpAny M A (leaving env (.ref e)) Q E s := by
  unfold leaving
  exact wpAny_bind (t.note hfr hf fun h1 t1 u1 => t1.flight (s := { s with heap := h1 }) (f := none) fun h2 t2 u2 => k h2 t2.tail (u1.trans u2))
/-- one without an entry: its first -/
theorem noteFirst {oe : Obj} {vs : Array Value} (hfr : A.frames = some (env :: outer)) (hf : env.frame = some L) (st : B.StaysIn s.heap) (nw : B.get? e = none) (fr : s.heap.FunFrames B (env :: outer)) (he : s.heap.get? e = some oe) (hd : oe.data = .fields vs) (h0 : vs[0]? = some a0)
    (h1 : vs[1]? = some Value.none) (h2 : vs[2]? = some c) (k : ∀ h', Tr B (env :: outer) e oe.cls a0 c (rawInt L) h' → s.heap.UpToSlots h' → Q () { s with heap := h' }) : wpAny M A (noteFrame (.ref e) env) Q E s := by
  unfold noteFrame
  simp only [hf]
  refine wpAny_bind (wpAny_field he hd h1 ?_)
  rw [if_neg (by decide)]
  exact entryC hfr hf st nw fr he hd h0 (Array.getElem?_eq_some_iff.mp h1).1 h2 k
theorem leaveMade {h : Heap} {args : List Value} (hfr : A.frames = some (env :: outer)) (hf : env.frame = some L) (st : B.StaysIn h) (fr : h.FunFrames B (env :: outer)) (mk : Heap.MadeExcOf h s.heap e cls args)
    (k : ∀ h' t, Tr B outer e cls (.ref t) .none .none h' → s.heap.UpToSlots h' → Q () { s with heap := h' }) : wpAny M A (leaving env (.ref e)) Q E s := by
  obtain ⟨t, he, _, _⟩ := mk.there
  have nw : B.get? e = none := by
    cases z : B.get? e with
    | none => rfl
    | some q => have y := st e q z; rw [mk.new] at y; cases y
  unfold leaving
  exact wpAny_bind (noteFirst (c := .none) hfr hf (fun c q hc => mk.keeps c q (st c q hc)) nw (up_frames (Heap.UpToSlots.of_keeps mk.keeps) fr) he rfl rfl rfl rfl fun h1 t1 u1 => t1.flight (s := { s with heap := h1 }) (f := none) fun h2 t2 u2 => k h2 t t2.tail (u1.trans u2))
end
end L2
set_option Elab.async false
set_option maxHeartbeats 4000000
namespace L2
open PySem PySem.Spec PyProof.Rows
theorem ObjOk.there {P : Program} {w : World} {H : Hp} {h : Heap} {a : Addr} {o : HO} (x : ObjOk P w H h a o) : ∃ ob, h.get? a = some ob := by
  cases o with
  | lst xs => obtain ⟨_, _, _, _, e⟩ := x; exact ⟨_, e⟩
  | tup xs => obtain ⟨_, _, _, ⟨ob, e, _⟩⟩ := x; exact ⟨_, e⟩
  | dK kvs => obtain ⟨_, _, _, _, ob, _, _, e, _⟩ := x; exact ⟨_, e⟩
  | dT kvs => obtain ⟨_, _, _, _, ob, _, _, e, _⟩ := x; exact ⟨_, e⟩
  | set S n => obtain ⟨ob, _, _, _, e, _⟩ := x; exact ⟨_, e⟩
  | ins C dx fs => obtain ⟨_, _, _, e, _⟩ := x; exact ⟨_, e⟩
  | own y => obtain ⟨ob, e⟩ := x; exact ⟨_, e⟩
  | xd fs => obtain ⟨_, ⟨ob, _, _, e, _⟩, _⟩ := x; exact ⟨_, e⟩
  | rng lo hi => obtain ⟨_, _, _, e⟩ := x; exact ⟨_, e⟩
  | frz ob u => obtain ⟨e, _⟩ := x; exact ⟨_, e⟩
  | tbl ps => exact ⟨_, (show h.get? a = some _ from x)⟩
  | met f y => exact ⟨_, (show h.get? a = some _ from x)⟩
  | ext φ => obtain ⟨_, ⟨ob, e⟩, _⟩ := x; exact ⟨_, e⟩
/-- its context: none, or an exception -/
def cxv (c : Option Addr) : Value := match c with | none => .none | some a => .ref a
/-- an exception has flown out of a call: the callers' frames, the abstract heap and the state ahead of the call, what is wanted of it -/
structure Flew (P : Program) (w : World) (outer : List Env) (H : Hp) (s : Shared) (E : XK) (ea : Addr) (s' : Shared) (cls a0 : Value) (cx : Option Addr) (B : Heap) (H' : Hp) : Prop where
  os : s'.os = s.os
  bare : AllBare s'.gens
  un : Un (frs outer) [] H H' s.heap s'.heap
  hok : HOk P w H' s'.heap
  fly : Heap.FlyingW B outer ea cls a0 s'.heap
  new : s.heap.get? ea = none
  kt : ∀ b, H' b ≠ none → ∃ o, B.get? b = some o
  ku : ∀ b o, s.heap.get? b = some o → H b = none → b ∉ frs outer → B.get? b = some o
  ke : ∀ b o, s.heap.get? b = some o → b ∉ frs outer → ∃ o', B.get? b = some o'
  ctx : CtxV s'.heap ea (cxv cx)
  wish : E cls cx H'
def CX1 (P : Program) (w : World) : CXT := fun outer H s E e s' => ∃ ea cls a0 cx B H', e = .ref ea ∧ Flew P w outer H s E ea s' cls a0 cx B H'
theorem pass1 {X : Cx} : Passes (CX1 X.prog X.w) X E0 := fun _ _ _ _ _ _ _ h => by
  obtain ⟨_, _, _, _, _, _, _, F⟩ := h
  exact F.wish.elim
section
variable {P : Program} {w : World} {K : PySem.W.Frag} {mg : Str → Option Value} {base : Heap} {N : List Str} {qual : Str} {scope : Scope} {f : Addr} {cd : Value} {A : Around} {outer : List Env} {s : Shared} {H : Hp} {E : XK}
theorem frs_cons (env : Env) (l : List Env) (L : Addr) (h : env.frame = some L) : frs (env :: l) = L :: frs l := by
  unfold frs; rw [List.filterMap_cons, h]
/-- a callee's exception leaves this def too -/
theorem passX : Passes (CX1 P w) (cxOf (CX1 P w) P w K mg base N qual scope f cd A outer s H E) E := by
  intro pins σ H1 s1 e s2 I h
  obtain ⟨ea, cls, a0, cx, B, H2, rfl, F⟩ := h
  have hst : frs (cxOf (CX1 P w) P w K mg base N qual scope f cd A outer s H E).stack = s.heap.objs.size :: frs outer := frs_cons _ _ _ rfl
  have hfl : Heap.FlyingW B (envOfC qual scope s.heap.objs.size f cd :: outer) ea cls a0 s2.heap := F.fly
  have off : ∀ b o, s.heap.get? b = some o → b ∉ frs outer → b ∉ frs (cxOf (CX1 P w) P w K mg base N qual scope f cd A outer s H E).stack := fun b o e n z => by
    rw [hst] at z
    rcases List.mem_cons.mp z with q | q
    · rw [q] at e; exact absurd (Heap.lt_size e) (Nat.lt_irrefl _)
    · exact n q
  have noex : ∀ b : Addr, b ∉ (cxOf (CX1 P w) P w K mg base N qual scope f cd A outer s H E).ex := fun b z => nomatch z
  have nf : ∀ b o, s.heap.get? b = some o → b ∈ frs outer → ∀ vs, o.data ≠ .fields vs := fun b o e hb vs => by
    obtain ⟨_, o', ho, hd⟩ := I.ok.funs.mem hb
    have ho' : s.heap.get? b = some o' := ho
    rw [e] at ho'; cases ho'
    exact hd vs
  show wpAny (model P w) (A.deeper (envOfC qual scope s.heap.objs.size f cd)) (leaving (envOfC qual scope s.heap.objs.size f cd) (.ref ea)) _ _ s2
  refine Tr.leave (s := s2) (t := ⟨hfl.1, hfl.2.1, hfl.2.2.1, hfl.2.2.2, F.ctx⟩) I.ok.frames rfl fun h3 t3 up3 => ?_
  have fly3 := t3.fly
  have old : ∀ b o, s.heap.get? b = some o → H b = none → b ∉ frs outer → B.get? b = some o := fun b o e n hb => F.ku b o (I.base.keep b o e n hb (noex b)) (I.base.free b o e n (noex b)) (off b o e hb)
  have olde : ∀ b o, s.heap.get? b = some o → b ∉ frs outer → ∃ o', B.get? b = some o' := fun b o e hb => by
    obtain ⟨o1, e1⟩ := I.base.there b o e (noex b)
    exact F.ke b o1 e1 (off b o e hb)
  have sl : ∀ b o, s.heap.get? b = some o → H b = none → b ∈ frs outer → ∃ sl, h3.get? b = some { o with slots := sl } := fun b o e n hb => by
    obtain ⟨s1', e1⟩ := I.base.slot b o e n hb (noex b)
    obtain ⟨s2', e2⟩ := F.un.any e1 (I.base.free b o e n (noex b)) (by simp)
    obtain ⟨s3', e3⟩ := up3 b _ e2 (nf b o e hb)
    exact ⟨s3', e3⟩
  refine ⟨ea, cls, a0, cx, B, H2, rfl, ⟨F.os.trans I.os, F.bare, ⟨fun b o e n hb _ => fly3.1 b o (old b o e n hb), fun b o e n hb _ => sl b o e n hb, fun b o e n _ => ?_, fun b o e _ => ?_, fun b xs e => F.un.tups b xs (I.base.tups b xs e), fun b o u e => F.un.frzs b o u (I.base.frzs b o u e), fun b ps e => ?_⟩,
    fun b u e => ?_, fly3, ?_, F.kt, old, olde, t3.cx, F.wish⟩⟩
  · obtain ⟨o1, e1⟩ := I.base.there b o e (noex b)
    exact F.un.free b o1 e1 (I.base.free b o e n (noex b)) (by simp)
  · by_cases hb : b ∈ frs outer
    · obtain ⟨_, _, _, _⟩ := I.ok.funs.mem hb
      have n : H b = none := I.ok.frf b hb
      obtain ⟨sl', e'⟩ := sl b o e n hb
      exact ⟨_, e'⟩
    · obtain ⟨o', e'⟩ := olde b o e hb
      exact ⟨o', fly3.1 b o' e'⟩
  · obtain ⟨m1, e1⟩ := I.base.tbls b ps e
    obtain ⟨m2, e2⟩ := F.un.tbls b _ e1
    exact ⟨m1 ++ m2, by rw [e2, Array.append_assoc]⟩
  · refine (F.hok b u e).stay (fun c v hc q => ?_) (fun _ q => q) fun _ _ q => q
    have hn : H2 c ≠ none := by
      rcases hc with rfl | hc
      · rw [e]; simp
      · rw [hc]; simp
    obtain ⟨o, eo⟩ := F.kt c hn
    have := F.fly.1 c o eo
    rw [q] at this; cases this
    exact fly3.1 c v eo
  · cases q : s.heap.get? ea with
    | none => rfl
    | some o =>
      obtain ⟨o1, e1⟩ := I.base.there ea o q (noex ea)
      rw [F.new] at e1; cases e1
/-- an exception made in this def leaves it -/
theorem madeX {pins : List (Addr × Obj)} {σ : St} {H1 : Hp} {s1 : Shared} {h2 : Heap} {e C : Addr} {vs : List Value} (I : Inv (cxOf (CX1 P w) P w K mg base N qual scope f cd A outer s H E) pins σ H1 s1) (hx : Heap.MadeExcOf s1.heap h2 e (.ref C) vs) (hE : E (.ref C) none H1) :
    (cxOf (CX1 P w) P w K mg base N qual scope f cd A outer s H E).xe (.ref e) { s1 with heap := h2 } := by
  have hst : frs (cxOf (CX1 P w) P w K mg base N qual scope f cd A outer s H E).stack = s.heap.objs.size :: frs outer := frs_cons _ _ _ rfl
  have hfr : frs (envOfC qual scope s.heap.objs.size f cd :: outer) = s.heap.objs.size :: frs outer := frs_cons _ _ _ rfl
  have noex : ∀ b : Addr, b ∉ (cxOf (CX1 P w) P w K mg base N qual scope f cd A outer s H E).ex := fun b z => nomatch z
  have hs : s1.heap.FunFrames (PySem.W.hideAll s1.heap (frs (envOfC qual scope s.heap.objs.size f cd :: outer))) (envOfC qual scope s.heap.objs.size f cd :: outer) :=
    PySem.W.funFrames_hide (show s1.heap.FunFrames base (envOfC qual scope s.heap.objs.size f cd :: outer) from I.stack) fun env he a ha => List.mem_filterMap.mpr ⟨env, he, ha⟩
  show wpAny (model P w) (A.deeper (envOfC qual scope s.heap.objs.size f cd)) (leaving (envOfC qual scope s.heap.objs.size f cd) (.ref e)) _ _ { s1 with heap := h2 }
  refine leaveMade (s := { s1 with heap := h2 }) I.ok.frames rfl (fun b o q => PySem.W.of_hideAll _ q) hs hx fun h3 t t3 up3 => ?_
  have fly3 := t3.fly
  have up3' : h2.UpToSlots h3 := up3
  have inB : ∀ b o, s1.heap.get? b = some o → b ∉ s.heap.objs.size :: frs outer → (PySem.W.hideAll s1.heap (frs (envOfC qual scope s.heap.objs.size f cd :: outer))).get? b = some o := fun b o q n => PySem.W.hideAll_get _ q (by rw [hfr]; exact n)
  have ne0 : ∀ b o, s.heap.get? b = some o → b ∉ frs outer → b ∉ s.heap.objs.size :: frs outer := fun b o q n z => by
    rcases List.mem_cons.mp z with y | y
    · rw [y] at q; exact absurd (Heap.lt_size q) (Nat.lt_irrefl _)
    · exact n y
  have trk : ∀ b u, H1 b = some u → b ∉ s.heap.objs.size :: frs outer := fun b u q z => by
    have := I.stkFree b (by rw [hst]; exact z)
    rw [q] at this; cases this
  have nf : ∀ b o, s.heap.get? b = some o → b ∈ frs outer → ∀ vs, o.data ≠ .fields vs := fun b o q hb vs => by
    obtain ⟨_, o', ho, hd⟩ := I.ok.funs.mem hb
    have ho' : s.heap.get? b = some o' := ho
    rw [q] at ho'; cases ho'
    exact hd vs
  have sl : ∀ b o, s.heap.get? b = some o → H b = none → b ∈ frs outer → ∃ sl, h3.get? b = some { o with slots := sl } := fun b o q n hb => by
    obtain ⟨s1', e1⟩ := I.base.slot b o q n hb (noex b)
    obtain ⟨s3', e3⟩ := up3' b _ (hx.keeps _ _ e1) (nf b o q hb)
    exact ⟨s3', e3⟩
  refine ⟨e, .ref C, .ref t, none, _, H1, rfl, ⟨I.os, I.bare, ⟨fun b o q n hb _ => fly3.1 b o (inB b o (I.base.keep b o q n hb (noex b)) (ne0 b o q hb)), fun b o q n hb _ => sl b o q n hb, fun b o q n _ => I.base.free b o q n (noex b), fun b o q _ => ?_, I.base.tups, I.base.frzs, I.base.tbls⟩,
    fun b u q => ?_, fly3, ?_, fun b hb => ?_, fun b o q n hb => inB b o (I.base.keep b o q n hb (noex b)) (ne0 b o q hb), fun b o q hb => ?_, t3.cx, hE⟩⟩
  · by_cases hb : b ∈ frs outer
    · obtain ⟨sl', e'⟩ := sl b o q (I.ok.frf b hb) hb
      exact ⟨_, e'⟩
    · obtain ⟨o1, e1⟩ := I.base.there b o q (noex b)
      exact ⟨o1, fly3.1 b o1 (inB b o1 e1 (ne0 b o q hb))⟩
  · refine (I.hok b u q).stay (fun c v hc z => ?_) (fun _ z => z) fun _ _ z => z
    have : c ∉ s.heap.objs.size :: frs outer := by
      rcases hc with rfl | hc
      · exact trk c u q
      · exact trk c _ hc
    exact fly3.1 c v (inB c v z this)
  · cases q : s.heap.get? e with
    | none => rfl
    | some o =>
      obtain ⟨o1, e1⟩ := I.base.there e o q (noex e)
      rw [hx.new] at e1; cases e1
  · cases q : H1 b with
    | none => exact absurd q hb
    | some u =>
      obtain ⟨ob, z⟩ := (I.hok b u q).there
      exact ⟨ob, inB b ob z (trk b u q)⟩
  · obtain ⟨o1, e1⟩ := I.base.there b o q (noex b)
    exact ⟨o1, inB b o1 e1 (ne0 b o q hb)⟩
end
/-- the rule for a def whose exceptions lie as CX says -/
theorem Fun.okX {CX : CXT} {P : Program} {w : World} {K : PySem.W.Frag} {mg : Str → Option Value} {base : Heap} {x qual : Str} {st : Stmt} {f : Addr} {fd : FuncData} {N ps : List Str} {k : Nat} {sp : Sp} (F : Fun K x qual st f fd) (S : FnScope N ps (defScope st)) (len : ∀ vs H Q E, sp vs H Q E → vs.length = ps.length)
    (hbody : ∀ (cdv : Value) (A : Around) (outer : List Env) (s : Shared) (H : Hp) (vs : List V) (Q : VK) (E : XK), Room k (A.deeper (envOfC qual (defScope st) s.heap.objs.size f cdv)) → sp vs H Q E →
      ∃ t, PSs (cxOf CX P w K mg base N qual (defScope st) f cdv A outer s H E) (defBody st) t ∧ t { nx := fun _ H' => Q .non H', rt := Q } (start N vs) H) : FnOk P w K mg base CX (k + 1) f fd ps sp := by
  obtain ⟨oc, od, kV, doc, pm, an, cdv, ct, osl, rfl, lk, hcd⟩ := F.ex
  exact fn_of lk hcd S len fun A outer s H vs Q E hr hsp => hbody cdv A outer s H vs Q E hr hsp
end L2
set_option Elab.async false
set_option maxHeartbeats 4000000
namespace L2
open PySem PySem.Spec PyProof.Rows
abbrev TJ := St → Hp → Str → VK → Prop
def PJ (X : Cx) (es : List Expr) (t : TJ) : Prop :=
  ∀ (out : Str) (pins : List (Addr × Obj)) (s : Shared) (σ : St) (H : Hp) (Q : VK), Inv X pins σ H s → t σ H out Q → wpAny (model X.prog X.w) X.A (joinParts out (evalEach es X.env)) (EP X pins σ Q) X.xe s
section
variable {X : Cx} {e v1 v2 : Expr} {es : List Expr} {te : TE} {t : TJ} {pos : Pos}
theorem pj_nil : PJ X [] (fun _ H out Q => out.length ≤ sizeLine ∧ Q (.str out) H) := fun out pins s σ H Q I h => joinParts_nil ⟨.str out, H, I.tok _, ⟨_, rfl⟩, h.2⟩ h.1
theorem pj_cons (he : PE X e te) (hr : PJ X es t) : PJ X (e :: es) (fun σ H out Q => te σ H fun x H1 => ∃ z, x = .str z ∧ (out ++ z).length ≤ sizeLine ∧ t σ H1 (out ++ z) Q) := fun out pins s σ H Q I h => by
  show wpAny _ _ (joinParts out (eval e X.env :: evalEach es X.env)) _ _ s
  refine joinParts_cons (thn (he pins s σ H _ I h) fun u s1 ⟨x, H1, I1, r, z, ez, hz, q⟩ => ?_)
  subst ez
  obtain ⟨tk, rfl⟩ := r
  exact ⟨hz, hr _ pins s1 σ H1 Q I1 q⟩
theorem pe_join (h : PJ X (v1 :: v2 :: es) t) : PE X (.JoinedStr (v1 :: v2 :: es) pos) (fun σ H Q => t σ H Str.empty Q) := fun pins s σ H Q I q => JoinedStr_many (h Str.empty pins s σ H Q I q)
theorem pe_fmt (he : PE X e te) : PE X (.FormattedValue e (-1) none pos) (fun σ H Q => te σ H fun x H1 => ∃ i : Int, x = .int i ∧ i.natAbs.log2 < 1920 ∧ Q (.str (toString i)) H1) := fun pins s σ H Q I h => by
  refine FormattedValue_plain (thn (he pins s σ H _ I h) fun u s1 ⟨x, H1, I1, r, i, ei, hi, q⟩ => ?_)
  subst ei
  obtain ⟨tk, rfl⟩ := r
  exact formatField_int_small hi ⟨.str (toString i), H1, I1.tok _, ⟨_, rfl⟩, q⟩
end
abbrev bmVE : List Value := [.type "ValueError", .type "Exception", .type "BaseException", .type "object"]
theorem own_at {K : PySem.W.Frag} {h₀ : Heap} {mg : Str → Option Value} {x : Str} {C : Addr} {bmB : List Value} {newId : String} (X : K.In h₀) (hm : mg x = some (.ref C)) (q : PySem.W.excIn K C bmB newId = true) : OwnCls x C bmB newId mg h₀ := by
  refine ⟨hm, ?_⟩
  unfold PySem.W.excIn at q
  split at q
  · rename_i dd cd sl lk
    split at q
    · rename_i C' bm a0 a1 a2 a3 nn a5 em es
      simp only [Bool.and_eq_true, beq_iff_eq, Bool.not_eq_true'] at q
      obtain ⟨⟨⟨⟨⟨rfl, rfl⟩, q3⟩, q4⟩, q5⟩, q6⟩ := q
      obtain ⟨c1, c2, c3, c4, c5, c6, c7, c8, c9, c10, c11⟩ := cd
      dsimp only at em q3 q5 q6
      subst em q3
      have esl : sl = #[a0, a1, a2, a3, some (.builtin nn), a5] := by
        obtain ⟨l⟩ := sl
        simp only at es
        rw [es]
      subst esl
      exact ⟨bm, c4, c1, c5, c2, c6, c7, c8, c9, c10, dd, a0, a1, a2, a3, a5, _, X _ _ lk, .of_isNs (PySem.W.isNs_of_in X q5), PySem.W.nsMap_none_of_in X q5 q6, PySem.W.tail_of_in X q4⟩
    · cases q
  · cases q
section
variable {P : Program} {w : World} {K : PySem.W.Frag} {mg : Str → Option Value} {base : Heap} {N : List Str} {qual : Str} {scope : Scope} {f : Addr} {cd : Value} {A : Around} {outer : List Env} {s : Shared} {H : Hp} {E : XK}
def tRaise (C : Addr) (E : XK) (ta : TA) : TS := fun _ σ H => ta σ H fun vs H1 => vs.length ≤ sizeLine ∧ E (.ref C) none H1
theorem ps_raise {x : Str} {C : Addr} {e₀ : Expr} {rest : List Expr} {ta : TA} {np cpos pos : Pos} (hm : mg x = some (.ref C)) (hq : PySem.W.excIn K C bmVE "ValueError.__new__" = true) (hh : (A.deeper (envOfC qual scope s.heap.objs.size f cd)).handled = none)
    (ha : PA (cxOf (CX1 P w) P w K mg base N qual scope f cd A outer s H E) (e₀ :: rest) ta) (hg : Gl (cxOf (CX1 P w) P w K mg base N qual scope f cd A outer s H E) x := by rfl) (hd : (x == ("__debug__" : Str)) = false := by decide)
    (he : starEach (e₀ :: rest) (cxOf (CX1 P w) P w K mg base N qual scope f cd A outer s H E).env = (false, eval e₀ (cxOf (CX1 P w) P w K mg base N qual scope f cd A outer s H E).env) :: starEach rest (cxOf (CX1 P w) P w K mg base N qual scope f cd A outer s H E).env := by rfl)
    (hpl : (backTo cpos (starEach rest (cxOf (CX1 P w) P w K mg base N qual scope f cd A outer s H E).env)).any (·.1) = false := by rfl) :
    PS (cxOf (CX1 P w) P w K mg base N qual scope f cd A outer s H E) (.Raise (some (.Call (.Name x np) (e₀ :: rest) [] cpos)) none pos) (tRaise C E ta) := by
  intro pins s1 σ H1 D I h
  have O := own_at (bmB := bmVE) (newId := "ValueError.__new__") I.ok.mod.kin hm hq
  obtain ⟨tl, NN, nm, q, bs, hdct, sn, sub, ab, col, dd, k0, k1, k2, k3, k5, mN, hC, hN, hni, T⟩ := O.obj
  refine wpAny_Raise_call_subT (C := C) (nm := nm) (q := q) (N := NN) (bs := bs) (bm := tl) (hdct := hdct) (sn := sn) (sub := sub) (ab := ab) (col := col) (dd := dd) (k0 := k0) (k1 := k1) (k2 := k2) (k3 := k3) (k5 := k5)
    PySem.F.excBase_ValueError (mN := mN) (T.hasType PySem.F.excBase_ValueError.hasBase) hh (by rw [he]; show (false || (backTo cpos (starEach rest _)).any (·.1)) = false; rw [hpl]; rfl) hni (ld_glob I hg hm ⟨rfl, ?_⟩ hd)
  have hA := ha cpos pins s1 σ H1 _ I h
  rw [he] at hA ⊢
  refine Calls.evalArgs_plain (thn hA fun us s2 ⟨vs, H2, I2, r, hz, q⟩ => ⟨rfl, by rw [← r.length]; exact hz, I2.bk _ _ hC, hN.keeps I2.bk, T.keeps I2.bk, fun h' e hm => ?_⟩)
  exact madeX I2 hm q
end
end L2
set_option Elab.async false
set_option maxHeartbeats 4000000
namespace L2
open PySem PySem.Spec PyProof.Rows
/-- an exception as a thing that can be asked for its class -/
def excO (a : Addr) (cls : Value) : HO := .ext fun h => ∃ o, h.get? a = some o ∧ o.cls = cls
/-- within the except suite -/
def cxM (X : Cx) (e : Addr) : Cx := { X with A := X.A.mark (some (.ref e)), calm := false, xe := fun _ _ => False }
/-- the body of a try: what it raises is looked at by the clause -/
def cxT (X : Cx) (pn : List (Addr × Obj)) (E : Value → Shared → Prop) : Cx := { X with pn := pn, xe := E }
section
variable {X : Cx} {pins : List (Addr × Obj)} {σ : St} {H : Hp} {s : Shared}
theorem Cx.Ok.toM (ok : X.Ok) (e : Addr) : (cxM X e).Ok := ⟨ok.mod, ok.kind, ok.glob, ok.blt, ok.above, ok.inj, ok.has, ok.cab, (fun z => nomatch z), ok.frames, ok.stk, ok.exf, ok.bs, ok.bsz, ok.noex, ok.exfs, ok.funs, ok.frf⟩
theorem Cx.Ok.toT (ok : X.Ok) (pn : List (Addr × Obj)) (E : Value → Shared → Prop) : (cxT X pn E).Ok := ⟨ok.mod, ok.kind, ok.glob, ok.blt, ok.above, ok.inj, ok.has, ok.cab, ok.hd, ok.frames, ok.stk, ok.exf, ok.bs, ok.bsz, ok.noex, ok.exfs, ok.funs, ok.frf⟩
theorem Cx.Ok.ofT {pn : List (Addr × Obj)} {E : Value → Shared → Prop} (ok : (cxT X pn E).Ok) : X.Ok := ⟨ok.mod, ok.kind, ok.glob, ok.blt, ok.above, ok.inj, ok.has, ok.cab, ok.hd, ok.frames, ok.stk, ok.exf, ok.bs, ok.bsz, ok.noex, ok.exfs, ok.funs, ok.frf⟩
theorem Inv.toT (I : Inv X pins σ H s) (E : Value → Shared → Prop) : Inv (cxT X (X.pn ++ pins) E) [] σ H s :=
  ⟨I.ok.toT _ _, I.os, I.bare, I.base, I.loc, I.cell, I.free, I.freeC, fun p hp => I.pin p (by rw [List.append_nil] at hp; exact hp), I.hok, I.len⟩
theorem Inv.ofT {E : Value → Shared → Prop} (I : Inv (cxT X (X.pn ++ pins) E) [] σ H s) : Inv X pins σ H s :=
  ⟨I.ok.ofT, I.os, I.bare, I.base, I.loc, I.cell, I.free, I.freeC, fun p hp => I.pin p (by rw [List.append_nil]; exact hp), I.hok, I.len⟩
theorem Inv.ofM {e : Addr} (ok : X.Ok) (I : Inv (cxM X e) pins σ H s) : Inv X pins σ H s := ⟨ok, I.os, I.bare, I.base, I.loc, I.cell, I.free, I.freeC, I.pin, I.hok, I.len⟩
/-- the exception has come to this frame: the state, all names forgotten -/
theorem landed {E' : Value → Shared → Prop} {pins1 : List (Addr × Obj)} {H2 H3 : Hp} {s2 s3 : Shared} {ea : Addr} {cls a0 : Value} {cx : Option Addr} {B : Heap} {EE : XK} {h' : Heap} (hex : X.ex = [])
    (I : Inv (cxT X (X.pn ++ pins) E') pins1 σ H2 s2) (F : Flew X.prog X.w X.stack H2 s2 EE ea s3 cls a0 cx B H3) (hB : B.StaysIn h') (up : s3.heap.UpToSlots h') (tk : Nat) :
    Inv (cxM X ea) pins (List.replicate X.N.length none) H3 { s3 with heap := h', toks := tk } := by
  have noex : ∀ b : Addr, b ∉ X.ex := fun b z => by rw [hex] at z; cases z
  have neL : ∀ b o, X.s₀.heap.get? b = some o → b ≠ X.env.locals := fun b o e => Nat.ne_of_lt (Nat.lt_of_lt_of_le (Heap.lt_size e) I.ok.above)
  have off : ∀ b, b ≠ X.env.locals → b ∉ X.fs → b ∉ frs X.stack := fun b n1 n2 z => by
    rcases List.mem_cons.mp (I.stkSub b z) with q | q
    · exact n1 q
    · exact n2 q
  have any : ∀ b o, s2.heap.get? b = some o → H2 b = none → (∀ vs, o.data ≠ .fields vs) → ∃ sl, h'.get? b = some { o with slots := sl } := fun b o e n nf => by
    obtain ⟨s1, e1⟩ := F.un.any e n (by simp)
    obtain ⟨s2', e2⟩ := up b _ e1 nf
    exact ⟨s2', e2⟩
  have nf : ∀ b o, X.s₀.heap.get? b = some o → b ∈ X.fs → ∀ vs, o.data ≠ .fields vs := fun b o q hb vs => by
    obtain ⟨_, o', ho, hd⟩ := I.ok.funs.mem hb
    have ho' : X.s₀.heap.get? b = some o' := ho
    rw [q] at ho'; cases ho'
    exact hd vs
  have kpt : ∀ b o, X.s₀.heap.get? b = some o → X.H₀ b = none → b ∉ X.fs → h'.get? b = some o := fun b o e n hb =>
    hB b o (F.ku b o (I.base.keep b o e n hb (noex b)) (I.base.free b o e n (noex b)) (off b (neL b o e) hb))
  have sl : ∀ b o, X.s₀.heap.get? b = some o → X.H₀ b = none → b ∈ X.fs → ∃ sl, h'.get? b = some { o with slots := sl } := fun b o e n hb => by
    obtain ⟨s1, e1⟩ := I.base.slot b o e n hb (noex b)
    obtain ⟨s2', e2⟩ := any b _ e1 (I.base.free b o e n (noex b)) (nf b o e hb)
    exact ⟨s2', e2⟩
  have cells : ∀ x c v, X.env.cells.lookup x = some c → s2.heap.IsCell c v → h'.IsCell c v := fun x c v e ⟨o, ho, hd⟩ => by
    obtain ⟨s1, e1⟩ := any c o ho (I.freeC x c e) (fun vs z => by rw [hd] at z; cases z)
    exact ⟨_, e1, hd⟩
  refine ⟨I.ok.ofT.toM ea, F.os.trans I.os, F.bare, ⟨fun b o e n hb _ => kpt b o e n hb, fun b o e n hb _ => sl b o e n hb, fun b o e n _ => ?_, fun b o e _ => ?_, fun b xs e => F.un.tups b xs (I.base.tups b xs e), fun b o u e => F.un.frzs b o u (I.base.frzs b o u e), fun b ps e => ?_⟩, ?_, fun x c e => ?_, ?_, fun x c e => ?_, fun p hp => ?_, fun b u e => ?_, ?_⟩
  · obtain ⟨o1, e1⟩ := I.base.there b o e (noex b)
    exact F.un.free b o1 e1 (I.base.free b o e n (noex b)) (by simp)
  · by_cases hb : b ∈ X.fs
    · obtain ⟨sl', e'⟩ := sl b o e (I.ok.frf b hb) hb
      exact ⟨_, e'⟩
    · obtain ⟨o1, e1⟩ := I.base.there b o e (noex b)
      obtain ⟨o2, e2⟩ := F.ke b o1 e1 (off b (neL b o e) hb)
      exact ⟨o2, hB b o2 e2⟩
  · obtain ⟨m1, e1⟩ := I.base.tbls b ps e
    obtain ⟨m2, e2⟩ := F.un.tbls b _ e1
    exact ⟨m1 ++ m2, by rw [e2, Array.append_assoc]⟩
  · obtain ⟨m, ⟨o, es, ep, ho, hd, r⟩, _⟩ := I.loc
    obtain ⟨s1, e1⟩ := any _ o ho I.free (fun vs z => by rw [hd] at z; cases z)
    refine ⟨m, ⟨_, es, ep, e1, hd, r⟩, fun i x v _ e2 _ => ?_⟩
    rw [List.getElem?_replicate] at e2
    split at e2 <;> cases e2
  · obtain ⟨v, z⟩ := I.cell x c e
    exact ⟨v, cells x c v e z⟩
  · obtain ⟨m, ⟨o, _, _, ho, _⟩, _⟩ := I.loc
    exact F.un.free _ o ho I.free (by simp)
  · obtain ⟨v, o, ho, hd⟩ := I.cell x c e
    exact F.un.free c o ho (I.freeC x c e) (by simp)
  · obtain ⟨e, n, n1, n2, d⟩ := I.pin p (List.mem_append_left _ hp)
    exact ⟨hB _ _ (F.ku _ _ e n (off _ n1 n2)), F.un.free _ _ e n (by simp), n1, n2, d⟩
  · refine (F.hok b u e).stay (fun c v hc q => ?_) (fun _ q => q) fun _ _ q => q
    have hn : H3 c ≠ none := by
      rcases hc with rfl | hc
      · rw [e]; simp
      · rw [hc]; simp
    obtain ⟨o, eo⟩ := F.kt c hn
    have := F.fly.1 c o eo
    rw [q] at this; cases this
    exact hB c v eo
  · exact List.length_replicate
/-- a new thing that nothing tracks yet is tracked -/
theorem Inv.track {a : Addr} {o : HO} (I : Inv X pins σ H s) (hn : H a = none) (h0 : X.s₀.heap.get? a = none) (hL : a ≠ X.env.locals) (hC : ∀ x c, X.env.cells.lookup x = some c → c ≠ a) (hp : ∀ p ∈ X.pn ++ pins, p.1 ≠ a)
    (new : ObjOk X.prog X.w (upd H a o) s.heap a o) : Inv X pins σ (upd H a o) s := by
  have ne0 : ∀ b ob, X.s₀.heap.get? b = some ob → b ≠ a := fun b ob e z => by rw [z, h0] at e; cases e
  refine ⟨I.ok, I.os, I.bare, ⟨I.base.keep, I.base.slot, fun b ob e n hx => by rw [upd_ne (ne0 b ob e)]; exact I.base.free b ob e n hx, I.base.there, fun b xs e => by rw [upd_ne (ne_of_none (I.base.tups b xs e) hn)]; exact I.base.tups b xs e, fun b ob u e => by rw [upd_ne (ne_of_none (I.base.frzs b ob u e) hn)]; exact I.base.frzs b ob u e, fun b ps e => by obtain ⟨m, z⟩ := I.base.tbls b ps e; exact ⟨m, by rw [upd_ne (ne_of_none z hn)]; exact z⟩⟩,
    I.loc, I.cell, by rw [upd_ne hL.symm]; exact I.free, fun x c e => by rw [upd_ne (hC x c e)]; exact I.freeC x c e, fun p hq => ?_, fun b u e => ?_, I.len⟩
  · obtain ⟨e, n, r⟩ := I.pin p hq
    exact ⟨e, by rw [upd_ne (hp p hq)]; exact n, r⟩
  · by_cases hb : b = a
    · subst hb
      rw [upd_same] at e; cases e
      exact new
    · rw [upd_ne hb] at e
      exact (I.hok b u e).stay (fun _ _ _ q => q) (fun c q => by rw [upd_ne (ne_of_none q hn)]; exact q) fun c xs q => by rw [upd_ne (ne_of_none q hn)]; exact q
/-- a local name is let go -/
theorem unbind_ok {M : Model} {A : Around} {E : Value → Shared → Prop} {i : Nat} {x : Str} {v : V} {Q : Unit → Shared → Prop} (I : Inv X pins σ H s) (hN : X.N.Nodup) (hi : X.N[i]? = some x) (hx : X.env.scope.names.lookup x = some .local) (hv : σ[i]? = some (some v))
    (h : ∀ s', Inv X pins (σ.set i none) H s' → Q () s') : wpAny M A (unbindName X.env x) Q E s := by
  obtain ⟨m, hn, hl⟩ := id I.loc
  have hcls : (X.env.scope.kind == .class || (X.env.scope.kind == .module && X.env.locals != X.env.globals)) = false := by rw [I.ok.kind]; rfl
  obtain ⟨u, ru, lk⟩ := hl i x v hi hv (.inl hx)
  have hm : m x = some u := by
    rcases lk with ⟨_, e⟩ | ⟨k, _⟩
    · exact e
    · rcases k with k | k <;> (rw [show X.env.kindOf x = X.env.scope.names.lookup x from rfl, hx] at k; cases k)
  refine wpAny_unbindName_local hx hn hm hcls fun h' u' hn' hs => ?_
  obtain ⟨oL, _, _, hoL, _⟩ := id hn
  have up : ∀ b o, X.s₀.heap.get? b = some o → b ≠ X.env.locals := fun b o e => Nat.ne_of_lt (Nat.lt_of_lt_of_le (Heap.lt_size e) I.ok.above)
  refine h _ ⟨I.ok, I.os, I.bare, ⟨fun b o e n hb hx => (hs.2 b (up b o e)).trans (I.base.keep b o e n hb hx), fun b o e n hb hx => ?_, I.base.free, fun b o e hx => ?_, I.base.tups, I.base.frzs, I.base.tbls⟩, ⟨_, hn', fun j y v' e1 e2 e3 => ?_⟩, fun y c e => ?_, I.free, I.freeC, fun p hp => ?_, fun b ob e => ?_, by simpa using I.len⟩
  · obtain ⟨sl, e1⟩ := I.base.slot b o e n hb hx
    exact ⟨sl, (hs.2 b (up b o e)).trans e1⟩
  · obtain ⟨o', e1⟩ := I.base.there b o e hx
    exact ⟨o', (hs.2 b (up b o e)).trans e1⟩
  · by_cases hj : j = i
    · subst hj
      have hiσ : j < σ.length := by rw [I.len]; exact (List.getElem?_eq_some_iff.mp hi).1
      rw [List.getElem?_set_self hiσ] at e2; cases e2
    · rw [List.getElem?_set_ne (Ne.symm hj)] at e2
      obtain ⟨w', r', q⟩ := hl j y v' e1 e2 e3
      refine ⟨w', r', ?_⟩
      rcases q with ⟨k, e⟩ | ⟨k, c, e, z⟩
      · refine .inl ⟨k, ?_⟩
        have : y ≠ x := fun e => hj (nodup_ix hN e1 (e ▸ hi))
        simp [this, e]
      · exact .inr ⟨k, c, e, z.sameBut hs (I.cne y c e)⟩
  · obtain ⟨w', z⟩ := I.cell y c e
    exact ⟨w', z.sameBut hs (I.cne y c e)⟩
  · obtain ⟨e, n, ne, nf, d⟩ := I.pin p hp
    exact ⟨(hs.2 p.1 ne).trans e, n, ne, nf, d⟩
  · refine (I.hok b ob e).stay (fun c w' hc q => (hs.2 c ?_).trans q) (fun _ q => q) fun _ _ q => q
    rintro rfl
    have fr := I.free
    rcases hc with z | z
    · rw [← z, fr] at e; cases e
    · rw [fr] at z; cases z
end
def tTry (K : PySem.W.Frag) (CF : Addr) (i : Nat) (EE : XK) (tb th : TS) : TS := fun D σ H => tb D σ H ∧ ∀ cls cx H' ea, EE cls cx H' → H' ea = none → PySem.W.exmOne K cls (.ref CF) = some true ∧
  th { nx := fun σ' H2 => D.nx (σ'.set i none) H2, rt := D.rt, bk := fun σ' H2 => D.bk (σ'.set i none) H2, ct := fun σ' H2 => D.ct (σ'.set i none) H2 } ((List.replicate σ.length none).set i (some (.ref ea))) (upd H' ea (excO ea cls))
theorem looks_cls {M : Model} {h : Heap} {a : Addr} {o : Obj} {cls : Value} (e : h.get? a = some o) (c : o.cls = cls) : PySem.W.Looks M h (typeOf (.ref a)) cls := by
  subst c
  exact (PySem.W.Looks.ld e).andThen .now
end L2
set_option Elab.async false
set_option maxHeartbeats 4000000
namespace L2
open PySem PySem.Spec PyProof.Rows
theorem let_go {X : Cx} {i : Nat} {n : Str} {pins : List (Addr × Obj)} {σ : St} {H : Hp} {s : Shared} {A : Around} {E : Value → Shared → Prop} {pos : Pos} {Q : Shared → Prop} (I : Inv X pins σ H s) (hN : X.N.Nodup) (hi : X.N[i]? = some n) (hn : X.env.scope.names.lookup n = some .local)
    (h : ∀ s', Inv X pins (σ.set i none) H s' → Q s') : wpAny (model X.prog X.w) A (do bindName X.env n Value.none; unbindBehindTheSuite X.env n pos) (fun _ s' => Q s') E s := by
  refine wpAny_bind (wpAny_bindName ?_)
  refine store_ok (i := i) (v := .non) I hN hi (.inl hn) rfl (fun s1 I1 => ?_) (.inr hn)
  refine wpAny_onRaise (unbind_ok (i := i) (v := .non) I1 hN hi hn ?_ fun s2 I2 => h s2 ?_)
  · have : i < σ.length := by rw [I.len]; exact (List.getElem?_eq_some_iff.mp hi).1
    rw [List.getElem?_set_self this]
  · rw [List.set_set] at I2; exact I2
theorem ps_try {X : Cx} {i : Nat} {n x : Str} {CF : Addr} {EE : XK} {tb th : TS} {body suite : List Stmt} {b₀ : Stmt} {np hp pos : Pos} (hN : X.N.Nodup) (hi : X.N[i]? = some n) (hn : X.env.scope.names.lookup n = some .local) (hm : X.mg x = some (.ref CF))
    (hb : ∀ pn E', PassesOwn (model X.prog X.w) X.A X.env E' → Passes (CX1 X.prog X.w) (cxT X pn E') EE → PSs (cxT X pn E') body tb) (hs : ∀ ea, PSs (cxM X ea) (b₀ :: suite) th)
    (hg : Gl X x := by rfl) (hd : (x == ("__debug__" : Str)) = false := by decide) (hex : X.ex = [] := by rfl) (hstk : X.stack = X.env :: X.outer := by rfl) (hfrm : X.env.frame = some X.env.locals := by rfl) :
    PS X (.Try body [.ExceptHandler (some (.Name x np)) (some n) (b₀ :: suite) hp] [] [] pos) (tTry X.K CF i EE tb th) := by
  intro pins s1 σ H1 D I h
  obtain ⟨h1, h2⟩ := h
  refine wpAny_Try_except ?_
  have fr : X.A.frames = some (X.env :: X.outer) := by rw [← hstk]; exact I.ok.frames
  have pass : Passes (CX1 X.prog X.w) (cxT X (X.pn ++ pins) fun e s₁ => wpAny (model X.prog X.w) X.A (noteFrame e X.env) (fun _ s₂ => wpAny (model X.prog X.w) X.A (setFlight e none) (fun _ s₃ =>
      wpAny (model X.prog X.w) X.A (handleBy e X.env [.ExceptHandler (some (.Name x np)) (some n) (b₀ :: suite) hp]) (SP X pins D) X.xe s₃) X.xe s₂) X.xe s₁) EE := by
    intro pins1 σ1 H2 s2 e s3 I2 hc
    obtain ⟨ea, cls, a0, cx, B, H3, rfl, F⟩ := hc
    have F' : Flew X.prog X.w X.stack H2 s2 EE ea s3 cls a0 cx B H3 := F
    have fly : Heap.FlyingW B (X.env :: X.outer) ea cls a0 s3.heap := by rw [← hstk]; exact F'.fly
    have hH3 : H3 ea = none := by
      cases q : H3 ea with
      | none => rfl
      | some u =>
        obtain ⟨o, eo⟩ := F'.kt ea (by rw [q]; simp)
        rw [fly.2.1] at eo; cases eo
    obtain ⟨hx, q⟩ := h2 cls cx H3 ea F'.wish hH3
    show wpAny (model X.prog X.w) X.A (noteFrame (.ref ea) X.env) _ X.xe s3
    refine wpAny_looks_onW fr hfrm fly fun h4 held4 up4 => ?_
    refine wpAny_landsW (s := { s3 with heap := h4 }) held4 fun h5 fly5 up5 => ?_
    have J5 := landed (X := X) (pins := pins) hex I2 F' fly5.1 (up4.trans up5) s3.toks
    obtain ⟨ob, hob, hoc⟩ := fly5.there
    refine wpAny_handleBy_cons (codeAny_handlers_test ?_) (by intro z; cases z)
    refine ld_glob (X := cxM X ea) J5 hg hm ?_ hd
    refine (PySem.W.exm_one J5.kIn (looks_cls hob hoc) hx).here ?_
    refine codeAny_handlers_suite_as (lands_againW (s := { s3 with heap := h5 }) fly5 fun h6 fly6 up6 => ?_)
    have J6 := landed (X := X) (pins := pins) hex I2 F' fly6.1 ((up4.trans up5).trans up6) s3.toks
    obtain ⟨ob6, hob6, hoc6⟩ := fly6.there
    have newE : s2.heap.get? ea = none := F'.new
    have neOld : ∀ b ob, s2.heap.get? b = some ob → b ≠ ea := fun b ob z w => by rw [w, newE] at z; cases z
    have J6' : Inv (cxM X ea) pins (List.replicate X.N.length none) (upd H3 ea (excO ea cls)) { s3 with heap := h6, toks := s3.toks } := by
      refine J6.track hH3 ?_ ?_ (fun y c z => ?_) (fun p hp => ?_) ⟨⟨ob6, hob6, hoc6⟩, ⟨ob6, hob6⟩, fun g1 g2 ⟨o, e1, e2⟩ k => ⟨o, k o e1, e2⟩⟩
      · cases z : X.s₀.heap.get? ea with
        | none => exact z
        | some o =>
          obtain ⟨o1, z1⟩ := I2.base.there ea o z (fun w => by rw [show (cxT X (X.pn ++ pins) _).ex = X.ex from rfl, hex] at w; cases w)
          rw [newE] at z1; cases z1
      · obtain ⟨m, ⟨o, _, _, ho, _⟩, _⟩ := I2.loc
        exact (neOld _ o ho).symm
      · obtain ⟨v, o, ho, _⟩ := I2.cell y c z
        exact neOld _ o ho
      · exact neOld _ _ (I2.pin p (List.mem_append_left _ hp)).1
    refine store_ok (X := cxM X ea) (i := i) (v := .ref ea) J6' hN hi (.inl hn) rfl (fun s7 J7 => ?_) (.inr hn)
    have ok : X.Ok := I.ok
    have q' := hs ea pins s7 _ _ _ J7 (by rw [← I.len]; exact q)
    refine wpAny_mono q' (fun f s8 r => ?_) (fun _ _ z => nomatch z)
    cases f with
    | next => obtain ⟨σ', H', J, d⟩ := r; exact let_go (J.ofM ok) hN hi hn fun s9 I9 => ⟨_, H', I9, d⟩
    | brk => obtain ⟨σ', H', J, d⟩ := r; exact let_go (J.ofM ok) hN hi hn fun s9 I9 => ⟨_, H', I9, d⟩
    | cont => obtain ⟨σ', H', J, d⟩ := r; exact let_go (J.ofM ok) hN hi hn fun s9 I9 => ⟨_, H', I9, d⟩
    | ret u => obtain ⟨v, σ', H', J, rv, d⟩ := r; exact let_go (J.ofM ok) hN hi hn fun s9 I9 => ⟨v, _, H', I9, rv, d⟩
  refine wpAny_mono (hb (X.pn ++ pins) _ PassesOwn.looking pass [] s1 σ H1 D (I.toT _) h1) (fun f s2 r => ?_) (fun _ _ z => z)
  cases f with
  | next => obtain ⟨σ', H', J, d⟩ := r; exact wpAny_execs_nil ⟨σ', H', J.ofT, d⟩
  | brk => obtain ⟨σ', H', J, d⟩ := r; exact ⟨σ', H', J.ofT, d⟩
  | cont => obtain ⟨σ', H', J, d⟩ := r; exact ⟨σ', H', J.ofT, d⟩
  | ret u => obtain ⟨v, σ', H', J, rv, d⟩ := r; exact ⟨v, σ', H', J.ofT, rv, d⟩
end L2
set_option Elab.async false
set_option maxHeartbeats 4000000
set_option maxRecDepth 20000
namespace L2
open PySem PySem.Spec PyProof.Rows
section
variable {prog : Program} {w : World} {A : Around} {E : Value → Shared → Prop} {s : Shared} {K : PySem.W.Frag} {x C : Addr} {ox : Obj}
open PySem.W PySem.Builtin PySem.Builtin.ObjectAttr PySem.Builtin.Getset_descriptor in
theorem xc_get {tp : Value} {R : Result → Shared → Prop} (X : K.In s.heap) (hx : s.heap.get? x = some ox) (hc : ox.cls = .ref C) (hm : mroIn K C (.type "object") = some true)
    (h : R (.ok (.ret (.ref C))) s) : codeAny (model prog w) A (.call (.builtin "getset_descriptor.__get__") ⟨[.builtin "object.__class__", .ref x, tp], []⟩) R s := by
  obtain ⟨hh, g, dr, t, os⟩ := s
  have L0 : Looks (model prog w) hh (typeOf (.ref x)) (.ref C) := looks_cls hx hc
  have L1 := looks_mroIn (M := model prog w) X hm
  refine codeAny_call_builtin KF.slot_gs.plain KF.entry_gs (KF.slot_gs.check _ _ _ _ _ _ _ _ KF.type_class (KF.args_gs _ _ _) ?_)
  unfold Builtin.«getset_descriptor.__get__» descrGet
  rw [dga_obj]
  refine wpAny_bind (wpAny_pure ?_)
  unfold descrGetter descrCheckInstance descrNameAndClass isInstance
  simp only [KF.owner_class]
  repeat lk
  refine ⟨Code.quiet_builtin _ (by decide +kernel), codeAny_builtin KF.entry_class ?_⟩
  unfold Builtin.«object.__class__» shownTypeOf
  repeat lk
  exact h
/-- what the fragment must know of an exception's class -/
structure XCls (K : PySem.W.Frag) (C : Addr) : Prop where
  ga : PySem.W.findIn K (.ref C) "__getattribute__" = some (some (.builtin "BaseException.__getattribute__"))
  gh : PySem.W.findIn K (.ref C) "__getattr__" = some none
  cl : PySem.W.findIn K (.ref C) "__class__" = some (some (.builtin "object.__class__"))
  gt : PySem.W.specialIn K (.builtin "object.__class__") "__get__" = some (some (.builtin "getset_descriptor.__get__"))
  tk : PySem.W.takesIn K (.builtin "object.__class__") = some true
  ob : PySem.W.mroIn K C (.type "object") = some true
  be : PySem.W.mroIn K C (.type "BaseException") = some true
open PySem.W PySem.Builtin PySem.Builtin.ObjectAttr PySem.Builtin.Getset_descriptor in
theorem xc_find {M : Model} {h : Heap} (X : K.In h) (Z : XCls K C) : Looks M h (find (.ref x) (.ref C) "__class__") (.bind (.builtin "getset_descriptor.__get__") (.builtin "object.__class__")) := by
  have L1 := looks_findIn (M := M) X Z.cl
  have L2 : Looks M h (getOf (some (.builtin "object.__class__"))) (some (.builtin "getset_descriptor.__get__")) := looks_specialIn X Z.gt
  have L3 := looks_takesIn (M := M) X Z.tk
  refine L1.andThen (L2.andThen ?_)
  exact (show Looks M h (dataDescriptor? (some (.builtin "object.__class__")) (some (.builtin "getset_descriptor.__get__"))) (some (.builtin "getset_descriptor.__get__", .builtin "object.__class__")) from L3.andThen .now).andThen (Looks.tag .now)
open PySem.W PySem.Builtin PySem.Builtin.ObjectAttr PySem.Builtin.Getset_descriptor in
theorem xc_entry {tk : Tok} {Q : Fin → Shared → Prop} (X : K.In s.heap) (Z : XCls K C) (hx : s.heap.get? x = some ox) (hc : ox.cls = .ref C) (hq : Q (.done (.ret (.ref C))) s) :
    wpAny (model prog w) A (Builtin.«object.__getattribute__» ⟨[.ref x, .str "__class__" tk], []⟩) Q E s := by
  obtain ⟨hh, g, dr, t, os⟩ := s
  have L0 : Looks (model prog w) hh (typeOf (.ref x)) (.ref C) := looks_cls hx hc
  have L1 := xc_find (M := model prog w) (x := x) X Z
  unfold Builtin.«object.__getattribute__»
  refine wpAny_bind (wpAny_pure (wpAny_bind (wpAny_pure (wpAny_bind (L0.at (wpAny_bind (L1.at ?_)))))))
  show wpAny _ _ (call (.builtin "getset_descriptor.__get__") [.builtin "object.__class__", .ref x, .ref C] >>= ret) _ _ _
  exact wpAny_bind (wpAny_call (xc_get X hx hc Z.ob (wpAny_pure hq)))
open PySem.W in
theorem xc_check {M : Model} {nameV : Value} {Q : Unit → Shared → Prop} (X : K.In s.heap) (Z : XCls K C) (hx : s.heap.get? x = some ox) (hc : ox.cls = .ref C) (hq : Q () s) :
    wpAny M A (checkBuiltinCall "BaseException.__getattribute__" ⟨[.ref x, nameV], []⟩) Q E s := by
  obtain ⟨hh, g, dr, t, os⟩ := s
  have hk : builtinKind "BaseException.__getattribute__" = some .slot := by decide +kernel
  have hsplit : splitId "BaseException.__getattribute__" = some ("BaseException", "__getattribute__") := by decide +kernel
  have ha := F.args_bexc_ga (.ref x) nameV
  have L0 : Looks M hh (typeOf (.ref x)) (.ref C) := looks_cls hx hc
  have L1 := looks_mroIn (M := M) X Z.be
  have LI : Looks M hh (isInstance (.ref x) (.type "BaseException")) true := L0.andThen L1
  simp only [checkBuiltinCall, hk, hsplit]
  refine wpAny_bind (LI.at ?_)
  repeat (first | wp_step)
  exact hq
theorem xc_call {tk : Tok} {R : Result → Shared → Prop} (X : K.In s.heap) (Z : XCls K C) (hx : s.heap.get? x = some ox) (hc : ox.cls = .ref C) (hq : R (.ok (.ret (.ref C))) s) :
    codeAny (model prog w) A (.call (.builtin "BaseException.__getattribute__") ⟨[.ref x, .str "__class__" tk], []⟩) R s :=
  codeAny_call_builtin F.excAttr_ValueError.ga.plain F.entry_bexc_ga (xc_check X Z hx hc (xc_entry X Z hx hc hq))
open PySem.W in
theorem xc_class {Q : Option Value → Shared → Prop} (X : K.In s.heap) (Z : XCls K C) (hx : s.heap.get? x = some ox) (hc : ox.cls = .ref C) (h : Q (some (.ref C)) { s with toks := s.toks + 1 }) :
    wpAny (model prog w) A (getAttr? (.ref x) "__class__") Q E s := by
  obtain ⟨hh, g, d, t, os⟩ := s
  have L0 : Looks (model prog w) hh (typeOf (.ref x)) (.ref C) := looks_cls hx hc
  have L1 := looks_findIn (M := model prog w) X Z.ga
  have L2 := looks_findIn (M := model prog w) X Z.gh
  have f3 := F.excAttr_ValueError.ga.bind (.ref x)
  have hx2 : (Value.builtin "BaseException.__getattribute__" == Value.builtin "object.__getattribute__") = false := by decide +kernel
  unfold getAttr? getAttrBy? getAttrBy
  refine wpAny_bind (wpAny_mkText (wpAny_bind (wpAny_attempt (wpAny_holding (wpAny_bind (L0.at (wpAny_bind (L1.at ?_))))))))
  dsimp only
  rw [show (onTheHeap (Value.ref C) && Value.builtin "BaseException.__getattribute__" == Value.builtin "object.__getattribute__") = false by rw [hx2]; rfl]
  show wpAny _ _ (getAttrByItsOwn _ _ _ _ _ _) _ _ _
  unfold getAttrByItsOwn
  refine wpAny_bind (show wpAny _ _ (typeLookup (.ref C) "__getattr__") _ _ _ from L2.at ?_)
  refine wpAny_bind (wpAny_attempt (wpAny_holding ?_))
  unfold callGetattribute boundAndCalled
  show wpAny _ _ (bindSpecial _ _ >>= _) _ _ _
  rw [f3]
  refine wpAny_bind (wpAny_pure (wpAny_call ?_))
  refine xc_call (s := ⟨hh, g, d, t + 1, os⟩) X Z hx hc ?_
  exact handed_on rfl (wpAny_pure h)
open PySem.W in
theorem kitx_exc {n : Value} (Z : XCls K C) (hn : n = .ref C) : KitX K (.ref x) n (fun h => ∃ ox, h.get? x = some ox ∧ ox.cls = n) where
  ty := fun _ _ _ I => by obtain ⟨ox, e, c⟩ := I; exact looks_cls e c
  it := fun _ _ X _ => by
    subst hn
    obtain ⟨cdD, hcD, _⟩ := Option.bind_eq_some_iff.mp Z.ob
    unfold clsIn at hcD
    split at hcD
    · rename_i c' d' cd' sl' ho
      intro A' Q' E' s' k q
      unfold isType loadHead
      exact wpAny_bind (wpAny_loadPart (k _ _ (X _ _ ho)) (wpAny_pure q))
    · cases hcD
  ne := fun h tp dd its n sl X htp => by
    subst hn
    obtain ⟨cdD, hcD, _⟩ := Option.bind_eq_some_iff.mp Z.ob
    refine Bool.eq_false_iff.mpr fun q => ?_
    have e : C = tp := Value.ref.inj (beq_iff_eq.mp q)
    subst e
    unfold clsIn at hcD
    split at hcD
    · rename_i c' d' cd' sl' ho
      have z := (X _ _ ho).symm.trans htp
      cases z
    · cases hcD
  ca := fun X I k => by
    subst hn
    obtain ⟨ox, e, c⟩ := I
    exact xc_class X Z e c k
end
/-- the type of a value, exceptions among them -/
inductive TyX (K : PySem.W.Frag) (H : Hp) : V → Value → Prop where
  | ty {x : V} {t : Value} (h : TyOf K H x t) : TyX K H x t
  | exc {a C : Addr} (e : H a = some (excO a (.ref C))) (Z : XCls K C) : TyX K H (.ref a) (.ref C)
section
variable {X : Cx}
theorem call_isx : CallR X (.builtin "isinstance") (fun xs H Q => ∃ x c t cv b, xs = [x, c] ∧ clsV c = some cv ∧ TyX X.K H x t ∧ PySem.W.kitOne X.K t cv = some b ∧ Q (.bl b) H) := by
  intro pins s σ H xs us Q I r h
  obtain ⟨x, c, t, cv, b, rfl, rc, ty, e, q⟩ := h
  obtain ⟨u, cu, rfl, ru, rcu⟩ := vals2 r
  obtain rfl := clsV_rel rc rcu
  cases ty with
  | ty ty => exact isinst_ok I ru ty e fun tk => ⟨.bl b, H, I.tok tk, rfl, q⟩
  | @exc a C ea Z =>
    cases (show u = Value.ref a from ru)
    obtain ⟨⟨ox, e1, e2⟩, _, _⟩ := (show ObjOk X.prog X.w H s.heap a (excO a (.ref C)) from I.hok a _ ea)
    exact PySem.W.kia_one (kitx_exc Z rfl) I.kIn ⟨ox, e1, e2⟩ e (fun z => nomatch z) fun tk => ⟨.bl b, H, I.tok tk, rfl, q⟩
end
end L2
set_option Elab.async false
set_option maxHeartbeats 4000000
set_option maxRecDepth 20000
namespace L2
open PySem PySem.Spec PyProof.Rows
section
variable {X : Cx}
def rIndex : V → List V → Hp → VK → Prop := fun x vs H Q => ∃ l xs y j, x = .ref l ∧ vs = [y] ∧ H l = some (.lst xs) ∧ flatV y = true ∧ xs.all flatV = true ∧ xs.length ≤ sizeLine ∧ (∃ z, xs[j]? = some z ∧ eqV z y = true) ∧ (∀ m z, m < j → xs[m]? = some z → eqV z y = false) ∧ Q (.int (j : Nat)) H
theorem mt_index : MtM X "list.index" rIndex := by
  intro pins s σ H x vs v us Q I rx rv h
  obtain ⟨l, xs, y, j, rfl, rfl, hH, fy, fs, hz, ⟨zj, ej, qj⟩, hm, q⟩ := h
  cases rx
  obtain ⟨u, rfl, ru⟩ := rv.one
  obtain ⟨z, its, n, r, hl, e⟩ := I.lstM hH
  obtain ⟨uj, euj, rj⟩ := r.get ej
  have fz : ∀ (m : Nat) z, xs[m]? = some z → flatV z = true := fun m z e => List.all_eq_true.mp fs z (List.mem_of_getElem? e)
  have hjx : j < xs.length := (List.getElem?_eq_some_iff.mp ej).1
  have hj : j < its.toArray.size := by rw [List.size_toArray, ← r.length]; exact hjx
  have gj : its.toArray[j] = uj := by obtain ⟨_, z⟩ := List.getElem?_eq_some_iff.mp euj; simpa using z
  refine call_meets F.slot_list_index ⟨_, e, rfl⟩ F.entry_list_index (F.args_list_index_2 _ _) (SeqAt.list_indexAt l its.toArray n none #[] u (eqU y) j hj ?_ ?_ ?_) ⟨e, fun w hw => mem_eqAt ru fy r fs w (by simpa using hw), ?_⟩
  · have hb : sizeLine < 2 ^ 63 - 1 := by decide
    omega
  · rw [gj, eqU_of rj (fz j zj ej)]; exact qj
  · intro m hm1 hm2
    have hmx : m < xs.length := by rw [List.size_toArray, ← r.length] at hm1; exact hm1
    obtain ⟨um, eum, rm⟩ := r.get (List.getElem?_eq_getElem hmx)
    have gm : its.toArray[m] = um := by obtain ⟨_, z⟩ := List.getElem?_eq_some_iff.mp eum; simpa using z
    rw [gm, eqU_of rm (fz m _ (List.getElem?_eq_getElem hmx))]
    exact hm m _ hm2 (List.getElem?_eq_getElem hmx)
  · exact ⟨.int _, H, I.tok _, ⟨_, rfl⟩, q⟩
end
end L2
set_option Elab.async false
set_option maxHeartbeats 4000000
namespace L2
open PySem PySem.Spec PyProof.Rows
section
variable {P : Program} {w : World} {K : PySem.W.Frag} {mg : Str → Option Value} {base : Heap} {CX : CXT} {k : Nat} {f C : Addr} {fd : FuncData} {ps : List Str} {sp : Sp} {x m : Str}
theorem FnOk.lift (F : FnOk P w K mg base CX0 k f fd ps sp) : FnOk P w K mg base CX k f fd ps sp :=
  ⟨F.len, fun A outer s H args us vs Q E hr he hb hv hs => codeAny_mono (F.run A outer s H args us vs Q E hr he hb hv hs) fun r s' z => by
    cases r with
    | ok f => cases f <;> exact z
    | error e => exact (show False from z).elim⟩
theorem DefOk.lift (D : DefOk P w K mg base CX0 x k ps sp) : DefOk P w K mg base CX x k ps sp := by
  obtain ⟨f, fd, h, r⟩ := D.ex
  exact ⟨f, fd, h.lift, r⟩
theorem MethOk.lift (D : MethOk P w K mg base CX0 C m k ps sp) : MethOk P w K mg base CX C m k ps sp := by
  obtain ⟨f, fd, h, r⟩ := D.ex
  exact ⟨D.cls, f, fd, h.lift, r⟩
end
end L2
set_option Elab.async false
set_option maxHeartbeats 4000000
namespace L2
open PySem PySem.Spec PyProof.Rows
def cxLCS (X : Cx) (NB : List Str) (scope : Scope) (cl : List (Str × Addr)) (C : Addr) (x : Str) (s0 : Shared) (H0 : Hp) (fp : List Addr) (pn : List (Addr × Obj)) : Cx :=
  { X with N := x :: NB, s₀ := s0, H₀ := H0, env := compEnvC scope cl C X.env, outer := X.stack, stack := X.stack, ex := fp, fn := fun _ => false, pn := pn, xe := fun _ _ => False }
theorem pe_lcS {X : Cx} (NB : List Str) {x : Str} {px : Pos} {iter elt : Expr} {ifs : List Expr} {scope : Scope} {pos : Pos} {wi : TI} {tc : TT} {te : TE} (hc : X.calm = true) (hi : PI X (.Name x px) iter wi)
    (ht : ∀ cl C s0 H0 fp pn, PTs (cxLCS X NB scope cl C x s0 H0 fp pn) ifs tc) (he : ∀ cl C s0 H0 fp pn, PE (cxLCS X NB scope cl C x s0 H0 fp pn) elt te)
    (hlen : NB.length = X.N.length) (hsub : ∀ (j : Nat) (y : Str), NB[j]? = some y → X.N[j]? = some y ∨ scope.names.lookup y = none) (hndB : NB.Nodup) (hN : ∀ y ∈ NB, scope.names.lookup y ≠ some .local) (hx : scope.names.lookup x = some .local)
    (hfree : ∀ y ∈ scope.names, y.2 = .free → X.env.kindOf y.1 = some .cell) (hcell : ∀ y ∈ scope.names, y.2 ≠ .cell)
    (hnames : ∀ y ∈ scope.names, y.2 = .local → scope.names.lookup y.1 = some .local) (hkind : scope.kind = .function := by rfl)
    (hs : ∀ x, foldedSetIterable iter X.env x = pure x := by intro _; rfl) : PE X (.ListComp elt [⟨.Name x px, iter, ifs, 0⟩] scope pos) (tLC wi tc te) := by
  intro pins s σ H Q I h
  obtain ⟨cl, hclos, hcl1, hcl2⟩ := closureFor_ok (env := X.env) (scope := scope) fun n hn => I.ok.has n (.inl (hfree (n, .free) hn rfl))
  rw [eval_ListComp]
  refine wpAny_comprehension_free (use := none) rfl hs hclos hkind hnames (thn (hi pins s σ H _ I h) fun xv s1 h1 => thn h1 fun itv s2 h2 => ?_)
  obtain ⟨it, fp, tn, J, H2, e, I2, T, st2, f2, W, ⟨m0, w0⟩, turn⟩ := h2
  subst e
  refine wpAny_newObj_type (wpAny_newFunctionEnv hcell (by intro y hy; simp at hy) (fun h₁ hns₁ hsb₁ => ?_) hkind)
  dsimp only at hns₁ hsb₁ ⊢
  generalize hH2 : s2.heap.push { cls := .type "list", dict := none, data := .seq ([] : List Value).toArray } = HH at hns₁ hsb₁ ⊢
  have hC : HH.objs.size = s2.heap.objs.size + 1 := by rw [← hH2, Heap.size_push]
  have hDC : s2.heap.objs.size ≠ HH.objs.size := by rw [hC]; exact Nat.ne_of_lt (Nat.lt_succ_self _)
  have below : ∀ b, b < s2.heap.objs.size → b ≠ HH.objs.size ∧ b ≠ s2.heap.objs.size := fun b hb => ⟨by rw [hC]; exact Nat.ne_of_lt (Nat.lt_succ_of_lt hb), Nat.ne_of_lt hb⟩
  have old : ∀ b o, s2.heap.get? b = some o → h₁.get? b = some o := fun b o e => hsb₁.extBut b o (below b (Heap.lt_size e)).1 (Heap.get?_push_of_some _ (hH2 ▸ Heap.get?_push_of_some _ e))
  have hacc : h₁.get? s2.heap.objs.size = some (lobj [] 0) := hsb₁.extBut _ _ hDC (Heap.get?_push_of_some _ (hH2 ▸ Heap.get?_push_size _ rfl))
  have hfpo := T.obj 0 _ st2
  have hfplt : ∀ b ∈ fp, b < s2.heap.objs.size := fun b hb => by
    obtain ⟨o, e, _⟩ := hfpo b hb
    exact Heap.lt_size e
  have stl : ∀ b ∈ frs X.stack, b < s2.heap.objs.size := fun b hb => by
    obtain ⟨_, o, ho, _⟩ := I2.stack.mem hb
    exact Heap.lt_size ho
  have celt : ∀ y c, X.env.cells.lookup y = some c → c < s2.heap.objs.size := fun y c e => by
    obtain ⟨v, q⟩ := I2.cell y c e
    exact q.lt
  have hpf : ∀ p ∈ X.pn ++ pins, p.1 ∉ frs X.stack := fun p hp z => by
    obtain ⟨_, _, n1, n2, _⟩ := I2.pin p hp
    rcases List.mem_cons.mp (I2.stkSub _ z) with q | q
    · exact n1 q
    · exact n2 q
  -- the block's context
  have okX : (cxLCS X NB scope cl HH.objs.size x s2 H2 fp (X.pn ++ pins)).Ok := by
    refine ⟨I2.ok.mod, hkind, I2.ok.glob, I2.ok.blt, ?_, fun y z c e1 e2 => I2.ok.inj y z c (hcl1 _ _ e1) (hcl1 _ _ e2), fun y hy => ?_, fun y c hf => (nomatch hf), I2.ok.hd, I2.ok.frames, .inl rfl, fun b hb => ?_, I2.bs, ?_, fun b o e hb => ?_, fun b hb => ?_, I2.stack, I2.stkFree⟩
    · show s2.heap.objs.size ≤ HH.objs.size
      rw [hC]; exact Nat.le_succ _
    · have hy' : (relabel scope X.env).names.lookup y = some .cell ∨ (relabel scope X.env).names.lookup y = some .free := hy
      rw [names_relabel] at hy'
      have : scope.names.lookup y = some .free := by
        cases q : scope.names.lookup y with
        | none => rw [q] at hy'; rcases hy' with z | z <;> cases z
        | some k =>
          have hm := PySem.mem_of_lookup q
          rw [q] at hy'
          have hk : gRel X.env y k = .cell ∨ gRel X.env y k = .free := by simpa using hy'
          unfold gRel at hk
          split at hk
          · rename_i c
            simp at c
            rw [c.1.1]
          · rcases hk with z | z
            · exact absurd z (hcell _ hm)
            · rw [z]
      exact hcl2 y (PySem.mem_of_lookup this)
    · refine ⟨?_, fun y c e z => (f2 b hb).2.2.2.2.1 y c (hcl1 _ _ e) z⟩
      exact (below b (hfplt b hb)).1
    · exact Nat.le_trans I2.ok.bsz I2.sz
    · have := (I2.bs b o e).2
      rcases (f2 b hb).2.2.2.1 with z | z
      · exact I2.ok.noex b o e z
      · exact absurd (Nat.lt_of_lt_of_le (Heap.lt_size (I2.ok.bs b o e).1) z) (Nat.lt_irrefl _)
    · intro z
      rcases List.mem_cons.mp (I2.stkSub _ z) with q | q
      · exact (f2 b hb).2.1 q
      · exact (f2 b hb).2.2.1 q
  have start : ∀ t, Inv (cxLCS X NB scope cl HH.objs.size x s2 H2 fp (X.pn ++ pins)) [(s2.heap.objs.size, lobj [] 0)] (none :: σ) H2 { s2 with heap := h₁, toks := t } := fun t => by
    refine ⟨okX, rfl, I2.bare, Un.kept old, ⟨_, hns₁, fun i y v e1 e2 e3 => ?_⟩, fun y c e => ?_, I2.hok.fresh (by show s2.heap.objs.size ≤ HH.objs.size; rw [hC]; exact Nat.le_succ _), fun y c e => I2.freeC y c (hcl1 _ _ e), fun p hp => ?_, I2.hok.kept old, ?_⟩
    · cases i with
      | zero => cases e2
      | succ j =>
        have e0' : NB[j]? = some y := e1
        have e2' : σ[j]? = some (some v) := e2
        have hyN : y ∈ NB := List.mem_of_getElem? e0'
        have e3' : Vis (relabel scope X.env) y := e3
        unfold Vis at e3'
        rw [names_relabel] at e3'
        cases q : scope.names.lookup y with
        | none => rw [q] at e3'; rcases e3' with z | z | z <;> cases z
        | some k =>
          have hm := PySem.mem_of_lookup q
          rw [q] at e3'
          have kf : k = .free := by
            have hk : gRel X.env y k = .local ∨ gRel X.env y k = .cell ∨ gRel X.env y k = .free := by simpa using e3'
            unfold gRel at hk
            split at hk
            · rename_i c; simp at c; exact c.1.1
            · rcases hk with z | z | z
              · exact absurd (q.trans (congrArg some z)) (hN y hyN)
              · exact absurd z (hcell _ hm)
              · exact z
          subst kf
          have kc := hfree _ hm rfl
          have e1' : X.N[j]? = some y := (hsub j y e0').resolve_right (by rw [q]; exact fun z => nomatch z)
          obtain ⟨m, hn, hl⟩ := I2.loc
          obtain ⟨u, ru, lk⟩ := hl j y v e1' e2' (.inr (.inl kc))
          refine ⟨u, ru, ?_⟩
          rcases lk with ⟨z, _⟩ | ⟨_, c, ec, hcell'⟩
          · rw [kc] at z; cases z
          · obtain ⟨c', ec'⟩ := hcl2 y hm
            have : c' = c := by have z := hcl1 _ _ ec'; rw [ec] at z; exact (Option.some.inj z).symm
            subst this
            refine .inr ⟨.inl ?_, c', ec', ?_⟩
            · show (relabel scope X.env).names.lookup y = some .cell
              rw [names_relabel, q]
              show some (gRel X.env y .free) = _
              unfold gRel
              rw [I2.ok.kind, kc]; rfl
            · obtain ⟨o, ho, hd⟩ := hcell'
              exact ⟨o, old _ _ ho, hd⟩
    · obtain ⟨v, o, ho, hd⟩ := I2.cell y c (hcl1 _ _ e)
      exact ⟨v, o, old _ _ ho, hd⟩
    · rcases List.mem_append.mp hp with hp | hp
      · obtain ⟨a1, a2, a3, a4, a5⟩ := I2.pin p hp
        exact ⟨old _ _ a1, a2, (below _ (Heap.lt_size a1)).1, hpf p hp, a5⟩
      · have ep : p = (s2.heap.objs.size, lobj [] 0) := by simpa using hp
        subst ep
        exact ⟨hacc, I2.hok.fresh (Nat.le_refl _), hDC, fun z => absurd (stl _ z) (Nat.lt_irrefl _), fun v z => nomatch z⟩
    · show (none :: σ).length = (x :: NB).length
      rw [List.length_cons, List.length_cons, I2.len, hlen]
  have fpo : ∀ {H' : Hp} {pl : List (Addr × Obj)}, (∀ b ∈ fp, H' b = none) → (∀ p ∈ pl, p.1 = s2.heap.objs.size) → ∀ b ∈ fp, FpOk (cxLCS X NB scope cl HH.objs.size x s2 H2 fp (X.pn ++ pins)) pl H' b := fun hn hpl b hb => by
    obtain ⟨_, a2, a3, a4, a5, a6⟩ := f2 b hb
    refine ⟨hn b hb, (below b (hfplt b hb)).1, fun z => ?_, .inl hb, fun y c e z => a5 y c (hcl1 _ _ e) z, fun p hp z => ?_⟩
    · rcases List.mem_cons.mp (I2.stkSub _ z) with q | q
      · exact a2 q
      · exact a3 q
    · rcases List.mem_append.mp hp with hp | hp
      · exact a6 p hp z
      · have := hpl p hp
        rw [this] at z
        exact (below b (hfplt b hb)).2 z.symm
  have hnd' : (x :: NB).Nodup := List.nodup_cons.mpr ⟨fun z => hN x z hx, hndB⟩
  have loop : ∀ t, codeAny (model X.prog X.w) X.A (.compLoop (.ListComp elt [⟨.Name x px, iter, ifs, 0⟩] scope pos) 0 (.ref it) (.ref s2.heap.objs.size) (compEnvC scope cl HH.objs.size X.env))
      (compPost (model X.prog X.w) X.A X.xe none (EP X pins σ Q) (.ref s2.heap.objs.size) HH.objs.size) { s2 with heap := h₁, toks := t } := fun t => by
    refine compLoop_own (fun n s' => ∃ i ys its k H', Inv (cxLCS X NB scope cl HH.objs.size x s2 H2 fp (X.pn ++ pins)) [(s2.heap.objs.size, lobj its k)] (none :: σ) H' s' ∧ Vals ys its ∧ ys.length ≤ sizeLine ∧ tn i s'.heap ∧ (∀ b ∈ fp, H' b = none) ∧ W i n ys H') ?_ m0
      ⟨0, [], [], 0, H2, start t, .nil, Nat.zero_le _, T.keep _ _ _ st2 fun b _ o e => old b o e, fun b hb => (f2 b hb).1, w0⟩
    rintro n s3 ⟨i, ys, its, k, H3, I3, r3, z3, st3, fr3, w3⟩
    have hone : ∀ p ∈ [(s2.heap.objs.size, lobj its k)], p.1 = s2.heap.objs.size := fun p hp => by
      have : p = (s2.heap.objs.size, lobj its k) := by simpa using hp
      rw [this]
    rcases turn i n ys H3 w3 with ⟨stop, qn⟩ | ⟨go, zlt, NN, hNN, step⟩
    · refine thn (T.done (cxLCS X NB scope cl HH.objs.size x s2 H2 fp (X.pn ++ pins)) rfl rfl rfl hc i _ s3 (none :: σ) H3 (fun _ _ => False) I3 (fpo fr3 hone) st3 stop) fun r s4 ⟨hr, I4⟩ => ?_
      subst hr
      obtain ⟨m, hm, _⟩ := I4.loc
      refine ⟨m, hm, fun h' sb => ?_⟩
      have pD := I4.pin (s2.heap.objs.size, lobj its k) (List.mem_append_right _ List.mem_cons_self)
      have gD : h'.get? s2.heap.objs.size = some (lobj its k) := (sb.2 _ hDC).trans pD.1
      refine ⟨.ref s2.heap.objs.size, upd H3 s2.heap.objs.size (.lst ys), I2.call' (ch := fp) (I4.os) (Un.late I4.base (fun b q e => I2.hok.lt e) (Nat.le_refl _) fun b hb => sb.2 b (below b hb).1) (fun b u e => ?_) I4.bare (fun b hb => ?_), rfl, qn _ pD.2.1⟩
      · by_cases hb : b = s2.heap.objs.size
        · subst hb
          rw [upd_same] at e
          cases e
          exact ⟨z3, its, k, r3, gD⟩
        · rw [upd_ne hb] at e
          refine (I4.hok b u e).stay (fun c v hcc q => (sb.2 c ?_).trans q) (fun c q => ?_) fun c xs q => ?_
          · rintro rfl
            have fr := I4.free
            rcases hcc with z | z
            · rw [← z] at e; rw [show (cxLCS X NB scope cl HH.objs.size x s2 H2 fp (X.pn ++ pins)).env.locals = HH.objs.size from rfl] at fr; rw [fr] at e; cases e
            · rw [show (cxLCS X NB scope cl HH.objs.size x s2 H2 fp (X.pn ++ pins)).env.locals = HH.objs.size from rfl] at fr; rw [fr] at z; cases z
          · rw [upd_ne (ne_of_none q pD.2.1)]; exact q
          · rw [upd_ne (ne_of_none q pD.2.1)]; exact q
      · obtain ⟨_, a2, _, a4, a5, a6⟩ := f2 b hb
        exact ⟨a4, a2, a5, a6⟩
    · refine thn (T.item (cxLCS X NB scope cl HH.objs.size x s2 H2 fp (X.pn ++ pins)) rfl rfl rfl hc i _ s3 (none :: σ) H3 (fun _ _ => False) I3 (fpo fr3 hone) st3 go) fun r s4 ⟨u, hr, h4⟩ => ?_
      subst hr
      refine thn h4 fun _ s5 ⟨v, H5, I5, r5, y5, st5, fr5⟩ => ?_
      have I5' := I5.pinned (fpo fr5 hone) (T.obj _ _ st5)
      refine wpAny_assign_Name (store_ok (X := cxLCS X NB scope cl HH.objs.size x s2 H2 fp (X.pn ++ pins)) (i := 0) I5' hnd' rfl (.inl (by show (relabel scope X.env).names.lookup x = _; rw [names_relabel, hx]; rfl)) r5 (fun s6 I6 => ?_) (.inr (by show (relabel scope X.env).names.lookup x = _; rw [names_relabel, hx]; rfl)))
      have I6' : Inv (cxLCS X NB scope cl HH.objs.size x s2 H2 fp (X.pn ++ pins)) ([(s2.heap.objs.size, lobj its k)] ++ pinsAt fp s5.heap) (some v :: σ) H5 s6 := I6
      refine thn (ht cl HH.objs.size s2 H2 fp (X.pn ++ pins) _ s6 _ H5 _ I6' (step v H5 y5)) fun c s7 ⟨H7, I7, q7⟩ => ?_
      -- what the block's state says of the iterator and the list
      have again : ∀ {H9 : Hp} {s9 : Shared} {σ9 : St} {zs : List V} {jts : List Value} {k' : Nat}, Inv (cxLCS X NB scope cl HH.objs.size x s2 H2 fp (X.pn ++ pins)) ([(s2.heap.objs.size, lobj jts k')] ++ pinsAt fp s5.heap) (some v :: σ) H9 s9 → Vals zs jts → zs.length ≤ sizeLine → NN zs H9 →
          ∃ m, m < n ∧ ∃ i ys its k H', Inv (cxLCS X NB scope cl HH.objs.size x s2 H2 fp (X.pn ++ pins)) [(s2.heap.objs.size, lobj its k)] (none :: σ) H' s9 ∧ Vals ys its ∧ ys.length ≤ sizeLine ∧ tn i s9.heap ∧ (∀ b ∈ fp, H' b = none) ∧ W i m ys H' := fun {H9 s9 σ9 zs jts k'} I9 r9 z9 n9 => by
        obtain ⟨m', hm, w9⟩ := hNN zs H9 n9
        refine ⟨m', hm, i + 1, zs, jts, k', H9, (I9.unpinned.weak (σ' := none :: σ) rfl fun j v' e => ?_), r9, z9, T.keep _ _ _ st5 fun b hb o e => (I9.pin (b, o) (List.mem_append_right _ (List.mem_append_right _ (mem_pinsAt hb e)))).1, fun b hb => ?_, w9⟩
        · cases j with
          | zero => cases e
          | succ j => exact e
        · obtain ⟨o, e, d⟩ := T.obj _ _ st5 b hb
          exact (I9.pin (b, o) (List.mem_append_right _ (List.mem_append_right _ (mem_pinsAt hb e)))).2.1
      cases c with
      | false =>
        simp only [Bool.false_eq_true, if_false] at q7 ⊢
        exact again (σ9 := []) I7 r3 z3 q7
      | true =>
        simp only [if_true] at q7 ⊢
        refine thn (he cl HH.objs.size s2 H2 fp (X.pn ++ pins) _ s7 _ H7 _ I7 q7) fun u8 s8 ⟨y, H8, I8, r8, q8⟩ => ?_
        have pD := I8.pin (s2.heap.objs.size, lobj its k) (List.mem_append_right _ (List.mem_append_left _ List.mem_cons_self))
        refine append_at (hsz := by rw [List.size_toArray, ← r3.length]; exact z3) pD.1 fun h9 sb9 hD9 => ?_
        have e9 : ({ cls := .type "list", data := .seq (its.toArray.push u8) (k + 1) } : Obj) = lobj (its ++ [u8]) (k + 1) := by
          show _ = ({ cls := .type "list", data := .seq (its ++ [u8]).toArray (k + 1) } : Obj)
          rw [List.push_toArray]
        rw [e9] at hD9
        have Ia : Inv (cxLCS X NB scope cl HH.objs.size x s2 H2 fp (X.pn ++ pins)) (pinsAt fp s5.heap) (some v :: σ) H8 s8 := I8.pins_of fun p hp => I8.pin p (List.mem_append_right _ (List.mem_append_right _ hp))
        have nfp : ∀ p ∈ pinsAt fp s5.heap, p.1 ≠ s2.heap.objs.size := fun p hp => (below _ (hfplt _ (of_pinsAt hp).1)).2
        have Ib : Inv (cxLCS X NB scope cl HH.objs.size x s2 H2 fp (X.pn ++ pins)) (pinsAt fp s5.heap) (some v :: σ) H8 { s8 with heap := h9, toks := s8.toks } := by
          refine Ia.turned (it := s2.heap.objs.size) (fun b o hb e => (sb9.2 b hb).trans e) pD.2.1 pD.2.2.1 (.inr (Nat.le_refl _)) (fun y' c e z => absurd (celt _ _ (hcl1 _ _ e)) (by rw [z]; exact Nat.lt_irrefl _)) fun p hp => ?_
          rcases List.mem_append.mp hp with hp | hp
          · exact (below _ (Heap.lt_size (I2.pin p hp).1)).2
          · exact nfp p hp
        refine again (σ9 := []) (zs := ys ++ [y]) (jts := its ++ [u8]) (k' := k + 1) (Ib.pins_of fun p hp => ?_) (r3.append (.cons r8 .nil)) (by rw [List.length_append]; exact zlt) q8
        rcases List.mem_append.mp hp with hp | hp
        · have ep : p = (s2.heap.objs.size, lobj (its ++ [u8]) (k + 1)) := by simpa using hp
          subst ep
          exact ⟨hD9, pD.2.1, pD.2.2.1, pD.2.2.2.1, fun v z => nomatch z⟩
        · exact Ib.pin p (List.mem_append_right _ hp)
  exact codeAny_compStart_list (loop _) (T.self _ 0 _ _ _ (T.keep _ _ _ st2 fun b _ o e => old b o e) (loop _))
def lcOkS (N NB : List Str) (names outer : List (Str × NameKind)) (x : Str) : Bool :=
  (NB.length == N.length && (NB.zip N).all fun p => p.1 == p.2 || names.lookup p.1 == none) && lcOk NB names outer x
theorem pe_lcSB {X : Cx} (NB : List Str) {x : Str} {px : Pos} {iter elt : Expr} {ifs : List Expr} {scope : Scope} {pos : Pos} {wi : TI} {tc : TT} {te : TE} (hc : X.calm = true) (hi : PI X (.Name x px) iter wi)
    (ht : ∀ cl C s0 H0 fp pn, PTs (cxLCS X NB scope cl C x s0 H0 fp pn) ifs tc) (he : ∀ cl C s0 H0 fp pn, PE (cxLCS X NB scope cl C x s0 H0 fp pn) elt te) (hok : lcOkS X.N NB scope.names X.env.scope.names x = true) (hndB : NB.Nodup := by decide +kernel) (hkind : scope.kind = .function := by rfl)
    (hs : ∀ x, foldedSetIterable iter X.env x = pure x := by intro _; rfl) : PE X (.ListComp elt [⟨.Name x px, iter, ifs, 0⟩] scope pos) (tLC wi tc te) := by
  unfold lcOkS lcOk at hok
  rw [Bool.and_eq_true, Bool.and_eq_true, Bool.and_eq_true, Bool.and_eq_true, List.all_eq_true, List.all_eq_true, List.all_eq_true, beq_iff_eq] at hok
  obtain ⟨⟨hl, hz⟩, h1, h2, h3⟩ := hok
  refine pe_lcS NB hc hi ht he hl (fun j y e => ?_) hndB (fun y hy => ?_) (by simpa using h2) (fun y hy e => ?_) (fun y hy => ?_) (fun y hy e => ?_) hkind hs
  · have hj : j < NB.length := (List.getElem?_eq_some_iff.mp e).1
    have hj' : j < X.N.length := by omega
    have hm : (y, X.N[j]) ∈ NB.zip X.N := by
      have : (NB.zip X.N)[j]? = some (y, X.N[j]) := by
        rw [List.getElem?_zip_eq_some]
        exact ⟨e, List.getElem?_eq_getElem hj'⟩
      exact List.mem_of_getElem? this
    have := hz _ hm
    rw [Bool.or_eq_true, beq_iff_eq, beq_iff_eq] at this
    rcases this with h | h
    · left
      rw [List.getElem?_eq_getElem hj']
      exact congrArg some (show X.N[j] = y from h.symm)
    · exact .inr h
  · simpa using h1 y hy
  · have := h3 y hy
    rw [e] at this
    simp at this
    exact this
  · have := h3 y hy
    intro z
    rw [z] at this
    simp at this
  · have := h3 y hy
    rw [e] at this
    simp at this
    exact this
end L2
set_option Elab.async false
set_option maxHeartbeats 4000000
namespace L2
open PySem PySem.Spec PyProof.Rows
section
variable {X : Cx}
/-- max of a list of numbers -/
theorem call_maxL (hc : X.calm = true) : CallR X (.builtin "max") (fun xs H Q => ∃ (p : Addr) (ns : List Int), xs = [.ref p] ∧ SqL X.K H p (ns.map V.int) ∧ 0 < ns.length ∧ ∀ m, m ∈ ns → (∀ a ∈ ns, a ≤ m) → Q (.int m) H) := by
  intro pins s σ H xs us Q I r h
  obtain ⟨p, ns, rfl, hq, h0, q⟩ := h
  obtain ⟨u, rfl, rx⟩ := vals1 r
  cases rx
  obtain ⟨its, r', pl, hz⟩ := I.list hq
  have hi := intsAre_of r'
  obtain ⟨ys, ey⟩ := hi.allInts.items
  have hn : ys.toList.map (·.1) = ns := by
    rw [← nums_intItems, ← ey]
    exact hi.numsOf
  have hl : ys.size = ns.length := by rw [← hn, List.length_map, Array.length_toList]
  have hg : ∀ i, i < ns.length → ns[i]? = some (numAt ys i) := fun i h => by
    have hiy : i < ys.size := by omega
    rw [← hn, List.getElem?_map, Array.getElem?_toList, Array.getElem?_eq_getElem hiy]
    show some _ = some ((ys[i]?.map (·.1)).getD 0)
    rw [Array.getElem?_eq_getElem hiy]; rfl
  refine max_intList (I.ok.hd hc) (ey ▸ pl.isList) (by omega) fun v h' tk hv hk => ?_
  obtain ⟨t, rfl⟩ := intItems_at hv
  obtain ⟨b1, b2⟩ := argBest_gt (numAt ys) (ys.size - 1)
  refine ⟨.int (numAt ys (argBest (fun i j => decide (numAt ys i > numAt ys j)) (ys.size - 1))), H, I.kept hk, ⟨_, rfl⟩, q _ ?_ fun a ha => ?_⟩
  · exact List.mem_of_getElem? (hg _ (by omega))
  · obtain ⟨i, hi', e⟩ := List.getElem_of_mem ha
    have := hg i hi'
    rw [List.getElem?_eq_getElem hi', e] at this
    rw [Option.some.inj this]
    exact b2 i (by omega)
end
end L2
set_option Elab.async false
set_option maxHeartbeats 4000000
namespace L2
open PySem PySem.Spec PyProof.Rows
end L2
set_option Elab.async false
set_option maxHeartbeats 4000000
namespace L2
open PySem PySem.Spec PyProof.Rows
end L2
set_option Elab.async false
set_option maxHeartbeats 4000000
set_option maxRecDepth 100000
namespace L2
open PySem PySem.Spec PyProof.Rows
theorem vals_strs : ∀ l : List (Str × Tok), Vals ((l.map (·.1)).map V.str) (strValues l)
  | [] => .nil
  | p :: r => .cons ⟨p.2, rfl⟩ (vals_strs r)
theorem split_call {prog : Program} {w : World} {A : Around} {E : Value → Shared → Prop} {s : Shared} {x y : Str} {t u : Tok} {Q : Value → Shared → Prop} (hy : (y.length == 0) = false)
    (h : ∀ (l : List (Str × Tok)) (k : Nat), l.map (·.1) = Txt.split x y → Q (.ref s.heap.objs.size) { s with heap := s.heap.push { cls := .type "list", data := .seq (strValues l).toArray }, toks := k }) (hsz : x.length + 2 ≤ sizeLine) :
    wpAny (model prog w) A (call (.builtin "str.split") [.str x t, .str y u]) Q E s := by
  have hn : (Builtin.Str.partsBetween x (Builtin.Str.occurrences x y 0 x.length (x.length + 1)) y.length).length ≤ sizeLine := by
    have e1 := StrLaws.occ_length_le x y 0 x.length (x.length + 1)
    rw [length_partsBetween]; omega
  cases h1 : (decide (x.length < y.length) || decide (Builtin.Str.strKind x < Builtin.Str.strKind y))
  · cases hf : (Builtin.Str.occurrences x y 0 x.length (x.length + 1)).isEmpty
    · refine call_meets F.slot_str_split (typeIs_str _ _ _) F.entry_str_split (F.args_str_split_2 _ _) (meets_str_split_sep x y t u h1 hy hf (by omega) hn) ?_
      show wants Q E _ { s with toks := _, heap := s.heap.push { cls := .type "list", data := .seq (strsFrom s.toks (Builtin.Str.partsBetween x (Builtin.Str.occurrences x y 0 x.length (x.length + 1)) y.length)).toArray } }
      rw [strsFrom_eq]
      exact h (numbered s.toks _) _ ((numbered_texts _ _).trans ((if_neg (ne_true_of_eq_false h1)).trans (if_neg (ne_true_of_eq_false hf))).symm)
    · exact call_meets F.slot_str_split (typeIs_str _ _ _) F.entry_str_split (F.args_str_split_2 _ _) (meets_str_split_not_found x y t u h1 hy hf) (h [(x, t)] s.toks ((if_neg (ne_true_of_eq_false h1)).trans (if_pos hf)).symm)
  · exact call_meets F.slot_str_split (typeIs_str _ _ _) F.entry_str_split (F.args_str_split_2 _ _) (meets_str_split_cannot_occur x y t u h1) (h [(x, t)] s.toks (if_pos h1).symm)
section
variable {X : Cx}
def rSplit : V → List V → Hp → VK → Prop := fun x xs H Q => ∃ a b, x = .str a ∧ xs = [.str b] ∧ (b.length == 0) = false ∧ a.length + 2 ≤ sizeLine ∧ ∀ p, H p = none → Q (.ref p) (upd H p (.lst ((Txt.split a b).map V.str)))
theorem mt_split : MtR X "str.split" rSplit := by
  intro pins s σ H x xs v us Q I rx rv h
  obtain ⟨a, b, rfl, rfl, hb, hz, q⟩ := h
  obtain ⟨t, rfl⟩ := rx
  obtain ⟨w1, rfl, u, rfl⟩ := vals1 rv
  refine split_call hb (fun l k e => ?_) hz
  have nf : H s.heap.objs.size = none := I.hok.fresh (Nat.le_refl _)
  refine ⟨.ref s.heap.objs.size, upd H s.heap.objs.size (.lst ((Txt.split a b).map V.str)), I.laid (fun b u e => Heap.get?_push_of_some _ e) (Nat.le_refl _) ?_, rfl, q _ nf⟩
  refine ⟨by rw [List.length_map]; exact Nat.le_trans (split_le a b) hz, strValues l, 0, ?_, Heap.get?_push_size _ rfl⟩
  rw [← e]; exact vals_strs l
theorem strs_of : ∀ {ts : List Str} {us : List Value}, Vals (ts.map V.str) us → ∃ l : List (Str × Tok), strValues l = us ∧ l.map (·.1) = ts
  | [], _, .nil => ⟨[], rfl, rfl⟩
  | x :: ts, _, .cons ⟨t, e⟩ r => by
    obtain ⟨l, e1, e2⟩ := strs_of r
    subst e
    exact ⟨(x, t) :: l, by rw [← e1]; rfl, by rw [← e2]; rfl⟩
def rJoin (K : PySem.W.Frag) : V → List V → Hp → VK → Prop := fun x xs H Q => ∃ sep p ts, x = .str sep ∧ xs = [.ref p] ∧ SqL K H p (ts.map V.str) ∧ (ts.map (·.length)).sum + ts.length * sep.length ≤ 10000 ∧ Q (.str (Str.join sep ts)) H
theorem mt_join : MtR X "str.join" (rJoin X.K) := by
  intro pins s σ H x xs v us Q I rx rv h
  obtain ⟨sep, p, ts, rfl, rfl, hq, hz, q⟩ := h
  obtain ⟨t, rfl⟩ := rx
  obtain ⟨w1, rfl, e⟩ := vals1 rv
  cases e
  obtain ⟨its, r', pl, _⟩ := I.list hq
  obtain ⟨l, rfl, rfl⟩ := strs_of r'
  have hl : Builtin.Str.tooLong ((l.map (·.1)).toArray.foldl (· + ·.length + sep.length) 0) = false := by
    rw [StrLaws.joinTotal]
    have : ¬ ((l.map (·.1)).map (·.length)).sum + (l.map (·.1)).length * sep.length > sizeLine := by
      have : 10000 ≤ sizeLine := by decide
      omega
    exact decide_eq_false this
  refine call_meets F.slot_str_join (typeIs_str _ _ _) F.entry_str_join (F.args_str_join_2 _ _) (meets_str_join_list sep t p l hl) ⟨pl.isList, ?_⟩
  have fin : ∀ tk t', wants (EP X pins σ Q) X.xe (.ok (.ret (.str (Builtin.Str.glued sep (l.map (·.1))) t'))) { s with toks := tk } := fun tk t' =>
    ⟨.str (Builtin.Str.glued sep (l.map (·.1))), H, I.tok _, ⟨_, rfl⟩, by rw [StrLaws.glued_eq_join]; exact q⟩
  have hz2 : (Builtin.Str.glued sep (l.map (·.1))).length ≤ sizeLine := joinFit_length hl
  match l, fin, hz2 with
  | [], fin, hz2 => exact ⟨hz2, fin _ _⟩
  | [a], fin, hz2 => exact fin s.toks a.2
  | a :: b :: r, fin, hz2 => exact ⟨hz2, fin _ _⟩
/-- int(text) -/
theorem call_intS : CallR X (.type "int") (fun xs H Q => ∃ x n, xs = [.str x] ∧ PySem.intText? x = some n ∧ x.length ≤ 640 ∧ Q (.int n) H) := by
  intro pins s σ H xs us Q I r h
  obtain ⟨x, n, rfl, hn, hl, q⟩ := h
  obtain ⟨w1, rfl, u, rfl⟩ := vals1 r
  exact PySem.W.KIN.call_text hn hl ⟨.int n, H, I.tok _, ⟨_, rfl⟩, q⟩
/-- all(..) of a list of True and False -/
theorem call_allB (hc : X.calm = true) : CallR X (.builtin "all") (fun xs H Q => ∃ (p : Addr) (bs : List Bool), xs = [.ref p] ∧ SqL X.K H p (bs.map V.bl) ∧ Q (.bl (bs.all id)) H) := by
  intro pins s σ H xs us Q I r h
  obtain ⟨p, bs, rfl, hq, q⟩ := h
  obtain ⟨w1, rfl, e⟩ := vals1 r
  cases e
  obtain ⟨its, r', pl, _⟩ := I.list hq
  obtain ⟨ol, hol, _⟩ := id pl.isList
  refine call_all_walk (wpAny_pyIter_list pl.isList ?_)
  have ne : p ≠ s.heap.objs.size := Nat.ne_of_lt (Heap.lt_size hol)
  refine ⟨s.heap.objs.size, _, _, _, _, _, fun i => (bs[i]?).getD true, rfl, Walks.list (A := X.A.in1) (I.ok.hd hc) _ p ne its.toArray, ⟨⟨_, Heap.get?_push_size _ rfl, rfl, rfl⟩, Heap.IsList.push pl.isList _⟩, ?_, fun h' tk hk => ?_⟩
  · intro i v s' Q' E' hP hQ'
    have hv : its[i]? = some v := by simpa using hP
    have hi : i < bs.length := by
      have := (List.getElem?_eq_some_iff.mp hv).1
      have l := r'.length
      rw [List.length_map] at l
      omega
    obtain ⟨u, hu, ru⟩ := r'.get (show (bs.map V.bl)[i]? = some (.bl bs[i]) by rw [List.getElem?_map, List.getElem?_eq_getElem hi]; rfl)
    rw [hv] at hu
    cases hu
    obtain rfl : v = Value.bool bs[i] := ru
    have hQ2 : Q' ((bs[i]?).getD true) s' := hQ'
    rw [List.getElem?_eq_getElem hi] at hQ2
    exact wpAny_truthy_bool hQ2
  · have e : (List.range its.toArray.size).all (fun i => (bs[i]?).getD true) = bs.all id := by
      have l := r'.length
      rw [List.length_map] at l
      rw [List.size_toArray, ← l, Bool.eq_iff_iff, List.all_eq_true, List.all_eq_true]
      constructor
      · intro z b hb
        obtain ⟨i, hi, e⟩ := List.getElem_of_mem hb
        have := z i (List.mem_range.mpr hi)
        rw [List.getElem?_eq_getElem hi, e] at this
        exact this
      · intro z i hi
        have hi' := List.mem_range.mp hi
        rw [List.getElem?_eq_getElem hi']
        exact z _ (List.getElem_mem hi')
    rw [e]
    refine ⟨.bl (bs.all id), H, ?_, rfl, q⟩
    exact I.kept fun b o z => hk b o (by
      intro m
      have : b = s.heap.objs.size := by simpa using m
      rw [this] at z
      exact absurd (Heap.lt_size z) (Nat.lt_irrefl _)) (Heap.get?_push_of_some _ z)
end
def Its (z : Str) : It :=
  ⟨fun i _ => i < z.length, fun i H x H' => ∃ c, z.cps[i]? = some c ∧ x = .str ⟨#[c]⟩ ∧ H' = H, fun i _ => z.length ≤ i⟩
theorem turn_str {P : Program} {w : World} {K : PySem.W.Frag} {tg : Expr} (z : Str) (t : Tok) (it : Addr) : Turn P w K tg (Its z) [it] it (fun i h => h.IsStrIter it "str_ascii_iterator" z t i) where
  mem := by simp
  obj := fun i h st b hb => by
    have e : b = it := by simpa using hb
    subst e
    obtain ⟨o, e, c, d⟩ := st
    exact ⟨o, e, fun v z => by rw [d] at z; cases z⟩
  keep := fun i h h' st k => by
    obtain ⟨o, e, r⟩ := st
    exact ⟨o, k it (by simp) o e, r⟩
  item := by
    intro X hP hw hK hc i pins s σ H E I hf st hg
    subst hP hw hK
    obtain ⟨f0, f1, f2, f3, f4, f5⟩ := hf it (by simp)
    have hg' : i < z.cps.size := hg
    refine wpAny_pyNext_ascii_item st (Array.getElem?_eq_getElem hg') fun h' st' sb => ?_
    have I1 : Inv X pins σ H { s with heap := h', toks := s.toks + 1 } := I.turned (fun b o hb e => (sb.2 b hb).trans e) f0 f1 f3 f4 f5
    obtain ⟨o, e, c, d⟩ := id st'
    exact ⟨_, rfl, go_of (s := { s with heap := h', toks := s.toks + 1 }) e c d (by decide) ⟨.str ⟨#[z.cps[i]]⟩, H, I1, ⟨_, rfl⟩, ⟨_, Array.getElem?_eq_getElem hg', rfl, rfl⟩, st', fun b hb => (hf b hb).1⟩⟩
  done := by
    intro X hP hw hK hc i pins s σ H E I hf st hg
    subst hP hw hK
    obtain ⟨f0, f1, f2, f3, f4, f5⟩ := hf it (by simp)
    have hg' : z.cps.size ≤ i := hg
    exact wpAny_pyNext_ascii_end (I.ok.hd hc) st (Array.getElem?_eq_none hg') fun h' eb => ⟨rfl, I.turned (t' := s.toks) (fun b o hb e => eb b o hb e) f0 f1 f3 f4 f5⟩
  self := fun _ _ _ _ _ st h => wpAny_pyIter_striter_ascii st h
def iStr (te : TE) : TI := fun σ H R => te σ H fun x H1 => ∃ z, x = .str z ∧ z.cps.all (· < 128) = true ∧ R (Its z) H1
theorem pi_str {X : Cx} {tg e : Expr} {te : TE} (he : PE X e te) : PI X tg e (iStr te) := by
  intro pins s σ H R I h
  refine thn (he pins s σ H _ I h) fun v s1 ⟨x, H1, I1, rx, z, ex, ha, q⟩ => ?_
  subst ex
  obtain ⟨t, rfl⟩ := rx
  refine wpAny_pyIter_ascii ha ?_
  refine ⟨s1.heap.objs.size, [s1.heap.objs.size], _, _, H1, rfl, I1.kept (t' := s1.toks) (fun b o e => Heap.get?_push_of_some _ e), turn_str z t s1.heap.objs.size, ⟨_, Heap.get?_push_size _ rfl, rfl, rfl⟩, fun b hb => ?_, q⟩
  have e : b = s1.heap.objs.size := by simpa using hb
  subst e
  exact I1.fpOk (Nat.le_refl _) (I1.hok.fresh (Nat.le_refl _))
/-- over the signs of a text -/
theorem lc_str {z : Str} {tc : TT} {te : TE} {σ : St} {H : Hp} {Q : VK} (Pv : Nat → List V → Hp → Prop) (h0 : Pv 0 [] H) (hz : z.length ≤ 1000) (hl : ∀ i ys H, Pv i ys H → ys.length ≤ i)
    (hs : ∀ i c ys H, z.cps[i]? = some c → Pv i ys H → tc (some (.str ⟨#[c]⟩) :: σ) H fun k H2 => if k = true then te (some (.str ⟨#[c]⟩) :: σ) H2 fun y H3 => Pv (i + 1) (ys ++ [y]) H3 else Pv (i + 1) ys H2)
    (hd : ∀ ys H, Pv z.length ys H → ∀ p, H p = none → Q (.ref p) (upd H p (.lst ys))) : LCw (Its z) tc te σ H Q := by
  refine ⟨fun i m ys H => m = z.length - i ∧ i ≤ z.length ∧ Pv i ys H, ⟨z.length, by simp, Nat.zero_le _, h0⟩, ?_⟩
  rintro i m ys H ⟨rfl, hi, p⟩
  by_cases hlt : i < z.length
  · refine .inr ⟨hlt, small1000 (by have := hl i ys H p; omega), Pv (i + 1), fun zs H' p' => ⟨z.length - (i + 1), by omega, rfl, hlt, p'⟩, fun x H' y => ?_⟩
    obtain ⟨c, e1, e2, e3⟩ := y
    subst e2 e3
    exact hs i c ys _ e1 p
  · have e : i = z.length := by omega
    subst e
    exact .inl ⟨Nat.le_refl _, hd ys H p⟩
theorem lc_strY {z : Str} {te : TE} {σ : St} {H : Hp} {Q : VK} (Pv : Nat → List V → Hp → Prop) (h0 : Pv 0 [] H) (hz : z.length ≤ 1000) (hl : ∀ i ys H, Pv i ys H → ys.length ≤ i)
    (hs : ∀ i c ys H, z.cps[i]? = some c → Pv i ys H → te (some (.str ⟨#[c]⟩) :: σ) H fun y H3 => Pv (i + 1) (ys ++ [y]) H3)
    (hd : ∀ ys H, Pv z.length ys H → ∀ p, H p = none → Q (.ref p) (upd H p (.lst ys))) : LCw (Its z) tYes te σ H Q :=
  lc_str Pv h0 hz hl (fun i c ys H hi p => iteT (B := Pv (i + 1) ys H) (hs i c ys H hi p)) hd
section
variable {X : Cx}
/-- a text that stands at the top -/
theorem pe_constS {x : Str} {z : Str} {tk : Tok} {pos : Pos} (hm : X.mg x = some (.str z tk)) (hg : Gl X x := by rfl) (hd : (x == ("__debug__" : Str)) = false := by decide) : PE X (.Name x pos) (tC (.str z)) := pe_glob hg hm ⟨tk, rfl⟩ hd
end
end L2
namespace TM
structure Good (es ws : List Nat) : Prop where
  len : es.length + 1 = ws.length
  most : ws.length ≤ 14
  lt : ∀ k, k < es.length → es.getD k 0 ≤ k
  wo : ∀ v ∈ ws, v ≤ 1000
def Eld (es : List Nat) : Prop := ∀ k, k < es.length → es.getD k 0 ≤ k
end TM
namespace TM
variable {es : List Nat}
end TM
namespace TM
variable {es : List Nat}
end TM
namespace TM
variable {es : List Nat}
end TM
namespace TM
variable {es : List Nat}
end TM
namespace TM
variable {es : List Nat}
end TM
namespace TM
variable {es : List Nat}
end TM
namespace TM
variable {es : List Nat}
end TM
namespace TM
variable {es : List Nat}
end TM
set_option Elab.async false
set_option maxHeartbeats 4000000
namespace L2
open PySem PySem.Spec PyProof.Rows
section
variable {M : Model} {A : Around} {E : Value → Shared → Prop} {s : Shared}
theorem funFrames_but {base h h' : Heap} {C : Addr} (k : ∀ b, b ≠ C → h'.get? b = h.get? b) : ∀ {l : List Env}, C ∉ frs l → h.FunFrames base l → h'.FunFrames base l
  | [], _, _ => trivial
  | env :: l, hC, ⟨hk, ⟨L, o, hf, hn, ho, hd⟩, hr⟩ => by
    rw [frs_cons env l L hf] at hC
    exact ⟨hk, ⟨L, o, hf, hn, (k L fun e => hC (by rw [e]; exact List.mem_cons_self)).trans ho, hd⟩, funFrames_but k (fun z => hC (List.mem_cons_of_mem _ z)) hr⟩
end
section
variable {P : Program} {w : World} {K : PySem.W.Frag} {mg : Str → Option Value} {base : Heap} {N : List Str} {qual : Str} {scope : Scope} {f : Addr} {cd : Value} {A : Around} {outer : List Env} {s : Shared} {H : Hp} {E : XK}
/-- out of this def, when C, a thing new in it, has been changed on the way -/
theorem flewOut {pins : List (Addr × Obj)} {σ : St} {H1 H2 : Hp} {s1 s2 : Shared} {ea C : Addr} {cls a0 : Value} {cx : Option Addr} {B : Heap} {h6 : Heap} (I : Inv (cxOf (CX1 P w) P w K mg base N qual scope f cd A outer s H E) pins σ H1 s1)
    (F : Flew P w (cxOf (CX1 P w) P w K mg base N qual scope f cd A outer s H E).stack H1 s1 E ea s2 cls a0 cx B H2) (hC : s.heap.get? C = none) (hC2 : H2 C = none) (t3 : Tr (PySem.W.hideAll B [C]) outer ea cls a0 (cxv cx) .none h6)
    (up : ∀ b o, s2.heap.get? b = some o → b ≠ C → (∀ vs, o.data ≠ .fields vs) → ∃ sl, h6.get? b = some { o with slots := sl }) : CX1 P w outer H s E (.ref ea) { s2 with heap := h6 } := by
  have fly3 := t3.fly
  have hst : frs (cxOf (CX1 P w) P w K mg base N qual scope f cd A outer s H E).stack = s.heap.objs.size :: frs outer := frs_cons _ _ _ rfl
  have off : ∀ b o, s.heap.get? b = some o → b ∉ frs outer → b ∉ frs (cxOf (CX1 P w) P w K mg base N qual scope f cd A outer s H E).stack := fun b o e n z => by
    rw [hst] at z
    rcases List.mem_cons.mp z with q | q
    · rw [q] at e; exact absurd (Heap.lt_size e) (Nat.lt_irrefl _)
    · exact n q
  have noex : ∀ b : Addr, b ∉ (cxOf (CX1 P w) P w K mg base N qual scope f cd A outer s H E).ex := fun b z => nomatch z
  have neC : ∀ b o, s.heap.get? b = some o → b ≠ C := fun b o e z => by rw [z, hC] at e; cases e
  have inB : ∀ b o, B.get? b = some o → b ≠ C → (PySem.W.hideAll B [C]).get? b = some o := fun b o e n => PySem.W.hideAll_get _ e (by simpa using n)
  have nf : ∀ b o, s.heap.get? b = some o → b ∈ frs outer → ∀ vs, o.data ≠ .fields vs := fun b o e hb vs => by
    obtain ⟨_, o', ho, hd⟩ := I.ok.funs.mem hb
    have ho' : s.heap.get? b = some o' := ho
    rw [e] at ho'; cases ho'
    exact hd vs
  have old : ∀ b o, s.heap.get? b = some o → H b = none → b ∉ frs outer → (PySem.W.hideAll B [C]).get? b = some o := fun b o e n hb => inB b o (F.ku b o (I.base.keep b o e n hb (noex b)) (I.base.free b o e n (noex b)) (off b o e hb)) (neC b o e)
  have olde : ∀ b o, s.heap.get? b = some o → b ∉ frs outer → ∃ o', (PySem.W.hideAll B [C]).get? b = some o' := fun b o e hb => by
    obtain ⟨o1, e1⟩ := I.base.there b o e (noex b)
    obtain ⟨o2, e2⟩ := F.ke b o1 e1 (off b o e hb)
    exact ⟨o2, inB b o2 e2 (neC b o e)⟩
  have sl : ∀ b o, s.heap.get? b = some o → H b = none → b ∈ frs outer → ∃ sl, h6.get? b = some { o with slots := sl } := fun b o e n hb => by
    obtain ⟨s1', e1⟩ := I.base.slot b o e n hb (noex b)
    obtain ⟨s2', e2⟩ := F.un.any e1 (I.base.free b o e n (noex b)) (by simp)
    obtain ⟨s3', e3⟩ := up b _ e2 (neC b o e) (nf b o e hb)
    exact ⟨s3', e3⟩
  refine ⟨ea, cls, a0, cx, PySem.W.hideAll B [C], H2, rfl, ⟨F.os.trans I.os, F.bare, ⟨fun b o e n hb _ => fly3.1 b o (old b o e n hb), fun b o e n hb _ => sl b o e n hb, fun b o e n _ => ?_, fun b o e _ => ?_, fun b xs e => F.un.tups b xs (I.base.tups b xs e), fun b o u e => F.un.frzs b o u (I.base.frzs b o u e), fun b ps e => ?_⟩,
    fun b u e => ?_, fly3, ?_, fun b hb => ?_, old, olde, t3.cx, F.wish⟩⟩
  · obtain ⟨o1, e1⟩ := I.base.there b o e (noex b)
    exact F.un.free b o1 e1 (I.base.free b o e n (noex b)) (by simp)
  · by_cases hb : b ∈ frs outer
    · have n : H b = none := I.ok.frf b hb
      obtain ⟨sl', e'⟩ := sl b o e n hb
      exact ⟨_, e'⟩
    · obtain ⟨o', e'⟩ := olde b o e hb
      exact ⟨o', fly3.1 b o' e'⟩
  · obtain ⟨m1, e1⟩ := I.base.tbls b ps e
    obtain ⟨m2, e2⟩ := F.un.tbls b _ e1
    exact ⟨m1 ++ m2, by rw [e2, Array.append_assoc]⟩
  · refine (F.hok b u e).stay (fun c v hc q => ?_) (fun _ q => q) fun _ _ q => q
    have hn : H2 c ≠ none := by
      rcases hc with rfl | hc
      · rw [e]; simp
      · rw [hc]; simp
    obtain ⟨o, eo⟩ := F.kt c hn
    have := F.fly.1 c o eo
    rw [q] at this; cases this
    exact fly3.1 c v (inB c v eo fun z => hn (by rw [z]; exact hC2))
  · cases q : s.heap.get? ea with
    | none => rfl
    | some o =>
      obtain ⟨o1, e1⟩ := I.base.there ea o q (noex ea)
      rw [F.new] at e1; cases e1
  · obtain ⟨o, eo⟩ := F.kt b hb
    exact ⟨o, inB b o eo fun z => hb (by rw [z]; exact hC2)⟩
end
/-- what a comprehension asks of an exception on its way out -/
def outE (X : Cx) (C : Addr) : Value → Shared → Prop := fun x s' => ∃ m, s'.heap.Ns C m ∧ ∀ h', Heap.SameBut C s'.heap h' → ∀ cenv : Env, cenv.locals = C →
  wpAny (model X.prog X.w) X.A (PySem.passOn "comprehension.variables-let-go" x cenv : Sem Value) (fun _ _ => False) X.xe { s' with heap := h' }
def Outs (X : Cx) (EX : XK) : Prop := ∀ (pins : List (Addr × Obj)) (σ : St) (H1 H3 : Hp) (s1 s3 : Shared) (C ea : Addr) (m : Str → Option Value) (cls a0 : Value) (cx : Option Addr) (B : Heap) (benv : Env), Inv X pins σ H1 s1 → s1.heap.Ns C m → X.s₀.heap.get? C = none → C ∉ frs X.stack → H1 C = none → benv.frame = X.env.frame →
  Flew X.prog X.w X.stack H1 s1 EX ea s3 cls a0 cx B H3 → notedBy (model X.prog X.w) X.A benv (outE X C) (.ref ea) s3
theorem note_same {env env' : Env} (h : env.frame = env'.frame) (x : Value) : noteFrame x env = noteFrame x env' := by
  unfold noteFrame PySem.frameOf
  rw [h]
section
variable {P : Program} {w : World} {K : PySem.W.Frag} {mg : Str → Option Value} {base : Heap} {N : List Str} {qual : Str} {scope : Scope} {f : Addr} {cd : Value} {A : Around} {outer : List Env} {s : Shared} {H : Hp} {E : XK}
theorem outsX : Outs (cxOf (CX1 P w) P w K mg base N qual scope f cd A outer s H E) E := by
  intro pins σ H1 H3 s1 s3 C ea m cls a0 cx B benv I hns hC0 hCf hCn hben F
  obtain ⟨oC, es, ep, hoC, hdC, rC⟩ := hns
  have nfC : ∀ vs, oC.data ≠ .fields vs := fun vs z => by rw [hdC] at z; cases z
  have hfl : Heap.FlyingW B (envOfC qual scope s.heap.objs.size f cd :: outer) ea cls a0 s3.heap := F.fly
  have hCB : B.get? C = some oC := F.ku C oC hoC hCn hCf
  have hH3 : H3 C = none := F.un.free C oC hoC hCn (by simp)
  unfold notedBy
  rw [note_same hben]
  refine Tr.note (s := s3) (t := ⟨hfl.1, hfl.2.1, hfl.2.2.1, hfl.2.2.2, F.ctx⟩) I.ok.frames rfl fun h4 t4 up4 => ?_
  have hC4 : h4.get? C = some oC := t4.st C oC hCB
  refine ⟨m, ⟨oC, es, ep, hC4, hdC, rC⟩, fun h5 sb cenv _ => ?_⟩
  obtain ⟨oe, vs, T, oT, ts, he, hcl, hd, h1, hnT, hTe, hT, hdT, h3⟩ := t4.tr
  obtain ⟨oc, us, c1, c2, c3⟩ := t4.cx
  have neE : ea ≠ C := (fld_off he hd hC4 nfC).symm
  have neT : T ≠ C := (fld_off hT hdT hC4 nfC).symm
  have sub : (PySem.W.hideAll B [C]).StaysIn B := fun b o e => PySem.W.of_hideAll _ e
  have neB : ∀ b o, (PySem.W.hideAll B [C]).get? b = some o → b ≠ C := fun b o e z => by
    rw [z, PySem.W.hideAll_none [C] List.mem_cons_self] at e; cases e
  have t5 : Tr (PySem.W.hideAll B [C]) (envOfC qual scope s.heap.objs.size f cd :: outer) ea cls a0 (cxv cx) (rawInt s.heap.objs.size) h5 :=
    ⟨fun b o e => (sb.2 b (neB b o e)).trans (t4.st b o (sub b o e)), PySem.W.fresh_of_stays sub t4.nw, PySem.W.funFrames_base sub (funFrames_but sb.2 hCf t4.fr),
      ⟨oe, vs, T, oT, ts, (sb.2 _ neE).trans he, hcl, hd, h1, PySem.W.fresh_of_stays sub hnT, hTe, (sb.2 _ neT).trans hT, hdT, h3⟩, ⟨oc, us, (sb.2 _ neE).trans c1, c2, c3⟩⟩
  unfold PySem.passOn
  refine wpAny_bind (wpAny_field (s := { s3 with heap := h5 }) ((sb.2 _ neE).trans he) hd h1 ?_)
  rw [if_neg (by simp)]
  refine wpAny_bind (t5.flight (s := { s3 with heap := h5 }) fun h6 t6 up6 => ?_)
  refine wpAny_throw ?_
  show wpAny (model P w) (A.deeper (envOfC qual scope s.heap.objs.size f cd)) (leaving (envOfC qual scope s.heap.objs.size f cd) (.ref ea)) _ _ { s3 with heap := h6 }
  refine t6.leave (s := { s3 with heap := h6 }) I.ok.frames rfl fun h7 t7 up7 => ?_
  refine flewOut (C := C) (s2 := s3) I F hC0 hH3 t7 fun b o e n hnf => ?_
  obtain ⟨sl1, e1⟩ := up4 b o e hnf
  obtain ⟨sl2, e2⟩ := up6 b _ ((sb.2 b n).trans e1) hnf
  obtain ⟨sl3, e3⟩ := up7 b _ e2 hnf
  exact ⟨sl3, e3⟩
end
end L2
set_option Elab.async false
set_option maxHeartbeats 4000000
namespace L2
open PySem PySem.Spec PyProof.Rows
/-- the block's context, with a way out -/
def cxLCE (X : Cx) (NB : List Str) (scope : Scope) (cl : List (Str × Addr)) (C : Addr) (x : Str) (s0 : Shared) (H0 : Hp) (fp : List Addr) (pn : List (Addr × Obj)) (xe : Value → Shared → Prop) : Cx := { cxLCS X NB scope cl C x s0 H0 fp pn with xe := xe }
/-- one turn of the loop: EN for what flies, fin at the end, nxt behind a turn -/
def LCTurn (M : Model) (A : Around) (elt target : Expr) (ifs : List Expr) (it acc : Value) (env : Env) (EN : Value → Shared → Prop) (fin nxt : Shared → Prop) : Shared → Prop :=
  wpAny M A (pyNext it) (fun r s1 => match r with
    | none => fin s1
    | some v => wpAny M A (letOwnedTupleGo target it v) (fun _ s2 => wpAny M A (assign target env v) (fun _ s3 =>
        wpAny M A (forIn ifs true fun c r => if r = true then do let ok ← isTrue c env (eval c env); pure (ForInStep.yield ok) else pure (ForInStep.yield r)) (fun good s4 =>
          if good = true then wpAny M A (eval elt env) (fun y s5 => wpAny M A (call (.builtin "list.append") [acc, y]) (fun _ s6 => nxt s6) EN s5) EN s4 else nxt s4) EN s3) EN s2) EN s1) EN
theorem compLoop_ownX {prog : Program} {w : World} {A : Around} {R : Result → Shared → Prop} {s : Shared} {elt target iter : Expr} {ifs : List Expr} {scope : Scope} {pos : Pos} {it acc : Value} {env : Env} (J : Nat → Shared → Prop)
    (turn : ∀ n s, J n s → LCTurn (model prog w) A elt target ifs it acc env (notedBy (model prog w) A env fun e s' => R (.error e) s') (fun s1 => R (.ok .next) s1) (fun s6 => ∃ m, m < n ∧ J m s6) s)
    (n : Nat) (h : J n s) : codeAny (model prog w) A (.compLoop (.ListComp elt [⟨target, iter, ifs, 0⟩] scope pos) 0 it acc env) R s :=
  codeAny_loop rfl J (fun n s hJ => wpAny_noted (by
    rw [compTurn_list]
    have one : ∀ {α β : Type} {t : Sem α} {f : α → Sem β} {X Y : α → Shared → Prop} {Z : β → Shared → Prop} {EN : Value → Shared → Prop} {s : Shared}, wpAny (model prog w) A t X EN s → (∀ a s, X a s → wpAny (model prog w) A (f a) Z EN s) → wpAny (model prog w) A (t >>= f) Z EN s :=
      fun hX hf => wpAny_bind (wpAny_mono hX hf fun _ _ z => z)
    refine wpAny_bind (wpAny_standAt (one (Y := fun _ _ => True) (turn n s hJ) fun r s1 h1 => ?_))
    match r, h1 with
    | none, h1 => exact wpAny_pure h1
    | some v, h1 =>
      refine one (Y := fun _ _ => True) h1 fun _ s2 h2 => one (Y := fun _ _ => True) h2 fun _ s3 h3 => one (Y := fun _ _ => True) h3 fun good s4 h4 => ?_
      match good, h4 with
      | false, h4 => exact wpAny_pure ⟨rfl, h4⟩
      | true, h4 => exact wpAny_bind (one (Y := fun _ _ => True) h4 fun y s5 h5 => one (Y := fun _ _ => True) h5 fun _ s6 h6 => wpAny_pure (wpAny_pure ⟨rfl, h6⟩)))) n h
theorem lc_coreX {X : Cx} (NB : List Str) (use : Option (Value → Sem Unit)) (QF : Value → Shared → Prop) {x : Str} {px : Pos} {iter elt : Expr} {ifs : List Expr} {scope : Scope} {pos : Pos} {wi : TI} {tc : TT} {te : TE} {pins : List (Addr × Obj)} {s : Shared} {σ : St} {H : Hp} {Q : VK} {cp : Pos} {EX : XK} (hout : Outs X EX) (hc : X.calm = true) (hi : PI X (.Name x px) iter wi)
    (ht : ∀ cl C s0 H0 fp pn xe, PTs (cxLCE X NB scope cl C x s0 H0 fp pn xe) ifs tc) (he : ∀ cl C s0 H0 fp pn xe, Passes (CX1 X.prog X.w) (cxLCE X NB scope cl C x s0 H0 fp pn xe) EX → PE (cxLCE X NB scope cl C x s0 H0 fp pn xe) elt te)
    (hlen : NB.length = X.N.length) (hsub : ∀ (j : Nat) (y : Str), NB[j]? = some y → X.N[j]? = some y ∨ scope.names.lookup y = none) (hndB : NB.Nodup) (hN : ∀ y ∈ NB, scope.names.lookup y ≠ some .local) (hx : scope.names.lookup x = some .local)
    (hfree : ∀ y ∈ scope.names, y.2 = .free → X.env.kindOf y.1 = some .cell) (hcell : ∀ y ∈ scope.names, y.2 ≠ .cell)
    (hnames : ∀ y ∈ scope.names, y.2 = .local → scope.names.lookup y.1 = some .local) (hkind : scope.kind = .function)
    (hs : ∀ x, foldedSetIterable iter X.env x = pure x) (I : Inv X pins σ H s) (h : tLC wi tc te σ H Q)
    (hR : ∀ (D C : Addr) (s4 : Shared) (H4 : Hp) (m : Str → Option Value), s4.heap.Ns C m → X.s₀.heap.objs.size ≤ C → C ≠ X.env.locals → C ∉ X.fs → (∀ y c, X.env.cells.lookup y = some c → c ≠ C) → (∀ p ∈ X.pn ++ pins, p.1 ≠ C) → H4 C = none → (∀ h', Heap.SameBut C s4.heap h' → Inv X pins σ H4 { s4 with heap := h' }) → Q (.ref D) H4 → compPost (model X.prog X.w) X.A X.xe use QF (.ref D) C (.ok .next) s4) :
    wpAny (model X.prog X.w) X.A (comprehension (.ListComp elt [⟨.Name x px, iter, ifs, 0⟩] scope pos) scope X.env cp (newList []) false (eval iter X.env) use) QF X.xe s := by
  obtain ⟨cl, hclos, hcl1, hcl2⟩ := closureFor_ok (env := X.env) (scope := scope) fun n hn => I.ok.has n (.inl (hfree (n, .free) hn rfl))
  refine wpAny_comprehension_free (use := use) rfl hs hclos hkind hnames (thn (hi pins s σ H _ I h) fun xv s1 h1 => thn h1 fun itv s2 h2 => ?_)
  obtain ⟨it, fp, tn, J, H2, e, I2, T, st2, f2, W, ⟨m0, w0⟩, turn⟩ := h2
  subst e
  refine wpAny_newObj_type (wpAny_newFunctionEnv hcell (by intro y hy; simp at hy) (fun h₁ hns₁ hsb₁ => ?_) hkind)
  dsimp only at hns₁ hsb₁ ⊢
  generalize hH2 : s2.heap.push { cls := .type "list", dict := none, data := .seq ([] : List Value).toArray } = HH at hns₁ hsb₁ ⊢
  have hC : HH.objs.size = s2.heap.objs.size + 1 := by rw [← hH2, Heap.size_push]
  have hDC : s2.heap.objs.size ≠ HH.objs.size := by rw [hC]; exact Nat.ne_of_lt (Nat.lt_succ_self _)
  have below : ∀ b, b < s2.heap.objs.size → b ≠ HH.objs.size ∧ b ≠ s2.heap.objs.size := fun b hb => ⟨by rw [hC]; exact Nat.ne_of_lt (Nat.lt_succ_of_lt hb), Nat.ne_of_lt hb⟩
  have old : ∀ b o, s2.heap.get? b = some o → h₁.get? b = some o := fun b o e => hsb₁.extBut b o (below b (Heap.lt_size e)).1 (Heap.get?_push_of_some _ (hH2 ▸ Heap.get?_push_of_some _ e))
  have hacc : h₁.get? s2.heap.objs.size = some (lobj [] 0) := hsb₁.extBut _ _ hDC (Heap.get?_push_of_some _ (hH2 ▸ Heap.get?_push_size _ rfl))
  have hfpo := T.obj 0 _ st2
  have hfplt : ∀ b ∈ fp, b < s2.heap.objs.size := fun b hb => by
    obtain ⟨o, e, _⟩ := hfpo b hb
    exact Heap.lt_size e
  have stl : ∀ b ∈ frs X.stack, b < s2.heap.objs.size := fun b hb => by
    obtain ⟨_, o, ho, _⟩ := I2.stack.mem hb
    exact Heap.lt_size ho
  have celt : ∀ y c, X.env.cells.lookup y = some c → c < s2.heap.objs.size := fun y c e => by
    obtain ⟨v, q⟩ := I2.cell y c e
    exact q.lt
  have hpf : ∀ p ∈ X.pn ++ pins, p.1 ∉ frs X.stack := fun p hp z => by
    obtain ⟨_, _, n1, n2, _⟩ := I2.pin p hp
    rcases List.mem_cons.mp (I2.stkSub _ z) with q | q
    · exact n1 q
    · exact n2 q
  have locLt : X.env.locals < s2.heap.objs.size := by
    obtain ⟨m, ⟨o, _, _, ho, _⟩, _⟩ := I2.loc
    exact Heap.lt_size ho
  have fsLt : ∀ b ∈ X.fs, b < s2.heap.objs.size := fun b hb => by
    obtain ⟨_, o, ho, _⟩ := I2.ok.funs.mem hb
    exact Nat.lt_of_lt_of_le (Heap.lt_size ho) I2.sz
  -- the block's context
  have okX : (cxLCE X NB scope cl HH.objs.size x s2 H2 fp (X.pn ++ pins) (notedBy (model X.prog X.w) X.A (compEnvC scope cl HH.objs.size X.env) (outE X HH.objs.size))).Ok := by
    refine ⟨I2.ok.mod, hkind, I2.ok.glob, I2.ok.blt, ?_, fun y z c e1 e2 => I2.ok.inj y z c (hcl1 _ _ e1) (hcl1 _ _ e2), fun y hy => ?_, fun y c hf => (nomatch hf), I2.ok.hd, I2.ok.frames, .inl rfl, fun b hb => ?_, I2.bs, ?_, fun b o e hb => ?_, fun b hb => ?_, I2.stack, I2.stkFree⟩
    · show s2.heap.objs.size ≤ HH.objs.size
      rw [hC]; exact Nat.le_succ _
    · have hy' : (relabel scope X.env).names.lookup y = some .cell ∨ (relabel scope X.env).names.lookup y = some .free := hy
      rw [names_relabel] at hy'
      have : scope.names.lookup y = some .free := by
        cases q : scope.names.lookup y with
        | none => rw [q] at hy'; rcases hy' with z | z <;> cases z
        | some k =>
          have hm := PySem.mem_of_lookup q
          rw [q] at hy'
          have hk : gRel X.env y k = .cell ∨ gRel X.env y k = .free := by simpa using hy'
          unfold gRel at hk
          split at hk
          · rename_i c
            simp at c
            rw [c.1.1]
          · rcases hk with z | z
            · exact absurd z (hcell _ hm)
            · rw [z]
      exact hcl2 y (PySem.mem_of_lookup this)
    · refine ⟨?_, fun y c e z => (f2 b hb).2.2.2.2.1 y c (hcl1 _ _ e) z⟩
      exact (below b (hfplt b hb)).1
    · exact Nat.le_trans I2.ok.bsz I2.sz
    · have := (I2.bs b o e).2
      rcases (f2 b hb).2.2.2.1 with z | z
      · exact I2.ok.noex b o e z
      · exact absurd (Nat.lt_of_lt_of_le (Heap.lt_size (I2.ok.bs b o e).1) z) (Nat.lt_irrefl _)
    · intro z
      rcases List.mem_cons.mp (I2.stkSub _ z) with q | q
      · exact (f2 b hb).2.1 q
      · exact (f2 b hb).2.2.1 q
  have start : ∀ t, Inv (cxLCE X NB scope cl HH.objs.size x s2 H2 fp (X.pn ++ pins) (notedBy (model X.prog X.w) X.A (compEnvC scope cl HH.objs.size X.env) (outE X HH.objs.size))) [(s2.heap.objs.size, lobj [] 0)] (none :: σ) H2 { s2 with heap := h₁, toks := t } := fun t => by
    refine ⟨okX, rfl, I2.bare, Un.kept old, ⟨_, hns₁, fun i y v e1 e2 e3 => ?_⟩, fun y c e => ?_, I2.hok.fresh (by show s2.heap.objs.size ≤ HH.objs.size; rw [hC]; exact Nat.le_succ _), fun y c e => I2.freeC y c (hcl1 _ _ e), fun p hp => ?_, I2.hok.kept old, ?_⟩
    · cases i with
      | zero => cases e2
      | succ j =>
        have e0' : NB[j]? = some y := e1
        have e2' : σ[j]? = some (some v) := e2
        have hyN : y ∈ NB := List.mem_of_getElem? e0'
        have e3' : Vis (relabel scope X.env) y := e3
        unfold Vis at e3'
        rw [names_relabel] at e3'
        cases q : scope.names.lookup y with
        | none => rw [q] at e3'; rcases e3' with z | z | z <;> cases z
        | some k =>
          have hm := PySem.mem_of_lookup q
          rw [q] at e3'
          have kf : k = .free := by
            have hk : gRel X.env y k = .local ∨ gRel X.env y k = .cell ∨ gRel X.env y k = .free := by simpa using e3'
            unfold gRel at hk
            split at hk
            · rename_i c; simp at c; exact c.1.1
            · rcases hk with z | z | z
              · exact absurd (q.trans (congrArg some z)) (hN y hyN)
              · exact absurd z (hcell _ hm)
              · exact z
          subst kf
          have kc := hfree _ hm rfl
          have e1' : X.N[j]? = some y := (hsub j y e0').resolve_right (by rw [q]; exact fun z => nomatch z)
          obtain ⟨m, hn, hl⟩ := I2.loc
          obtain ⟨u, ru, lk⟩ := hl j y v e1' e2' (.inr (.inl kc))
          refine ⟨u, ru, ?_⟩
          rcases lk with ⟨z, _⟩ | ⟨_, c, ec, hcell'⟩
          · rw [kc] at z; cases z
          · obtain ⟨c', ec'⟩ := hcl2 y hm
            have : c' = c := by have z := hcl1 _ _ ec'; rw [ec] at z; exact (Option.some.inj z).symm
            subst this
            refine .inr ⟨.inl ?_, c', ec', ?_⟩
            · show (relabel scope X.env).names.lookup y = some .cell
              rw [names_relabel, q]
              show some (gRel X.env y .free) = _
              unfold gRel
              rw [I2.ok.kind, kc]; rfl
            · obtain ⟨o, ho, hd⟩ := hcell'
              exact ⟨o, old _ _ ho, hd⟩
    · obtain ⟨v, o, ho, hd⟩ := I2.cell y c (hcl1 _ _ e)
      exact ⟨v, o, old _ _ ho, hd⟩
    · rcases List.mem_append.mp hp with hp | hp
      · obtain ⟨a1, a2, a3, a4, a5⟩ := I2.pin p hp
        exact ⟨old _ _ a1, a2, (below _ (Heap.lt_size a1)).1, hpf p hp, a5⟩
      · have ep : p = (s2.heap.objs.size, lobj [] 0) := by simpa using hp
        subst ep
        exact ⟨hacc, I2.hok.fresh (Nat.le_refl _), hDC, fun z => absurd (stl _ z) (Nat.lt_irrefl _), fun v z => nomatch z⟩
    · show (none :: σ).length = (x :: NB).length
      rw [List.length_cons, List.length_cons, I2.len, hlen]
  have fpo : ∀ {H' : Hp} {pl : List (Addr × Obj)}, (∀ b ∈ fp, H' b = none) → (∀ p ∈ pl, p.1 = s2.heap.objs.size) → ∀ b ∈ fp, FpOk (cxLCE X NB scope cl HH.objs.size x s2 H2 fp (X.pn ++ pins) (notedBy (model X.prog X.w) X.A (compEnvC scope cl HH.objs.size X.env) (outE X HH.objs.size))) pl H' b := fun hn hpl b hb => by
    obtain ⟨_, a2, a3, a4, a5, a6⟩ := f2 b hb
    refine ⟨hn b hb, (below b (hfplt b hb)).1, fun z => ?_, .inl hb, fun y c e z => a5 y c (hcl1 _ _ e) z, fun p hp z => ?_⟩
    · rcases List.mem_cons.mp (I2.stkSub _ z) with q | q
      · exact a2 q
      · exact a3 q
    · rcases List.mem_append.mp hp with hp | hp
      · exact a6 p hp z
      · have := hpl p hp
        rw [this] at z
        exact (below b (hfplt b hb)).2 z.symm
  have hnd' : (x :: NB).Nodup := List.nodup_cons.mpr ⟨fun z => hN x z hx, hndB⟩
  have pass : Passes (CX1 X.prog X.w) (cxLCE X NB scope cl HH.objs.size x s2 H2 fp (X.pn ++ pins) (notedBy (model X.prog X.w) X.A (compEnvC scope cl HH.objs.size X.env) (outE X HH.objs.size))) EX := by
    intro pins1 σ1 H8 s8 e s9 I8 hc8
    obtain ⟨ea, cls, a0, cx, B, H9, rfl, F⟩ := hc8
    have F' : Flew X.prog X.w X.stack H8 s8 EX ea s9 cls a0 cx B H9 := F
    have Io : Inv X pins σ H8 s8 := I2.call' (ch := fp) (I8.os) I8.base I8.hok I8.bare fun b hb => by
      obtain ⟨_, a2, _, a4, a5, a6⟩ := f2 b hb
      exact ⟨a4, a2, a5, a6⟩
    obtain ⟨m, hm, _⟩ := I8.loc
    refine hout pins σ H8 H9 s8 s9 HH.objs.size ea m cls a0 cx B _ Io hm ?_ (fun z => ?_) I8.free rfl F'
    · cases z : X.s₀.heap.get? HH.objs.size with
      | none => rfl
      | some o => exact absurd (Nat.lt_of_lt_of_le (Heap.lt_size z) I2.sz) (by rw [hC]; exact Nat.not_lt.mpr (Nat.le_succ _))
    · have := stl _ z
      rw [hC] at this
      exact absurd this (Nat.not_lt.mpr (Nat.le_succ _))
  have loop : ∀ t, codeAny (model X.prog X.w) X.A (.compLoop (.ListComp elt [⟨.Name x px, iter, ifs, 0⟩] scope pos) 0 (.ref it) (.ref s2.heap.objs.size) (compEnvC scope cl HH.objs.size X.env))
      (compPost (model X.prog X.w) X.A X.xe use QF (.ref s2.heap.objs.size) HH.objs.size) { s2 with heap := h₁, toks := t } := fun t => by
    refine compLoop_ownX (fun n s' => ∃ i ys its k H', Inv (cxLCE X NB scope cl HH.objs.size x s2 H2 fp (X.pn ++ pins) (notedBy (model X.prog X.w) X.A (compEnvC scope cl HH.objs.size X.env) (outE X HH.objs.size))) [(s2.heap.objs.size, lobj its k)] (none :: σ) H' s' ∧ Vals ys its ∧ ys.length ≤ sizeLine ∧ tn i s'.heap ∧ (∀ b ∈ fp, H' b = none) ∧ W i n ys H') ?_ m0
      ⟨0, [], [], 0, H2, start t, .nil, Nat.zero_le _, T.keep _ _ _ st2 fun b _ o e => old b o e, fun b hb => (f2 b hb).1, w0⟩
    rintro n s3 ⟨i, ys, its, k, H3, I3, r3, z3, st3, fr3, w3⟩
    have hone : ∀ p ∈ [(s2.heap.objs.size, lobj its k)], p.1 = s2.heap.objs.size := fun p hp => by
      have : p = (s2.heap.objs.size, lobj its k) := by simpa using hp
      rw [this]
    rcases turn i n ys H3 w3 with ⟨stop, qn⟩ | ⟨go, zlt, NN, hNN, step⟩
    · refine thn (T.done (cxLCE X NB scope cl HH.objs.size x s2 H2 fp (X.pn ++ pins) (notedBy (model X.prog X.w) X.A (compEnvC scope cl HH.objs.size X.env) (outE X HH.objs.size))) rfl rfl rfl hc i _ s3 (none :: σ) H3 _ I3 (fpo fr3 hone) st3 stop) fun r s4 ⟨hr, I4⟩ => ?_
      subst hr
      obtain ⟨m, hm, _⟩ := I4.loc
      have pD := I4.pin (s2.heap.objs.size, lobj its k) (List.mem_append_right _ List.mem_cons_self)
      have hCn : H3 HH.objs.size = none := I4.free
      refine hR s2.heap.objs.size HH.objs.size s4 (upd H3 s2.heap.objs.size (.lst ys)) m hm (by rw [hC]; exact Nat.le_trans I2.sz (Nat.le_succ _)) (Ne.symm (below _ locLt).1) (fun z => (below _ (fsLt _ z)).1 rfl) (fun y c e => (below _ (celt y c e)).1) (fun p hp => (below _ (Heap.lt_size (I2.pin p hp).1)).1) (by rw [upd_ne (Ne.symm hDC)]; exact hCn) (fun h' sb => ?_) (qn _ pD.2.1)
      have gD : h'.get? s2.heap.objs.size = some (lobj its k) := (sb.2 _ hDC).trans pD.1
      refine I2.call' (ch := fp) (I4.os) (Un.late I4.base (fun b q e => I2.hok.lt e) (Nat.le_refl _) fun b hb => sb.2 b (below b hb).1) (fun b u e => ?_) I4.bare (fun b hb => ?_)
      · by_cases hb : b = s2.heap.objs.size
        · subst hb
          rw [upd_same] at e
          cases e
          exact ⟨z3, its, k, r3, gD⟩
        · rw [upd_ne hb] at e
          refine (I4.hok b u e).stay (fun c v hcc q => (sb.2 c ?_).trans q) (fun c q => ?_) fun c xs q => ?_
          · rintro rfl
            have fr := I4.free
            rcases hcc with z | z
            · rw [← z] at e; rw [show (cxLCE X NB scope cl HH.objs.size x s2 H2 fp (X.pn ++ pins) (notedBy (model X.prog X.w) X.A (compEnvC scope cl HH.objs.size X.env) (outE X HH.objs.size))).env.locals = HH.objs.size from rfl] at fr; rw [fr] at e; cases e
            · rw [show (cxLCE X NB scope cl HH.objs.size x s2 H2 fp (X.pn ++ pins) (notedBy (model X.prog X.w) X.A (compEnvC scope cl HH.objs.size X.env) (outE X HH.objs.size))).env.locals = HH.objs.size from rfl] at fr; rw [fr] at z; cases z
          · rw [upd_ne (ne_of_none q pD.2.1)]; exact q
          · rw [upd_ne (ne_of_none q pD.2.1)]; exact q
      · obtain ⟨_, a2, _, a4, a5, a6⟩ := f2 b hb
        exact ⟨a4, a2, a5, a6⟩
    · refine thn (T.item (cxLCE X NB scope cl HH.objs.size x s2 H2 fp (X.pn ++ pins) (notedBy (model X.prog X.w) X.A (compEnvC scope cl HH.objs.size X.env) (outE X HH.objs.size))) rfl rfl rfl hc i _ s3 (none :: σ) H3 _ I3 (fpo fr3 hone) st3 go) fun r s4 ⟨u, hr, h4⟩ => ?_
      subst hr
      refine thn h4 fun _ s5 ⟨v, H5, I5, r5, y5, st5, fr5⟩ => ?_
      have I5' := I5.pinned (fpo fr5 hone) (T.obj _ _ st5)
      refine wpAny_assign_Name (store_ok (X := cxLCE X NB scope cl HH.objs.size x s2 H2 fp (X.pn ++ pins) (notedBy (model X.prog X.w) X.A (compEnvC scope cl HH.objs.size X.env) (outE X HH.objs.size))) (i := 0) I5' hnd' rfl (.inl (by show (relabel scope X.env).names.lookup x = _; rw [names_relabel, hx]; rfl)) r5 (fun s6 I6 => ?_) (.inr (by show (relabel scope X.env).names.lookup x = _; rw [names_relabel, hx]; rfl)))
      have I6' : Inv (cxLCE X NB scope cl HH.objs.size x s2 H2 fp (X.pn ++ pins) (notedBy (model X.prog X.w) X.A (compEnvC scope cl HH.objs.size X.env) (outE X HH.objs.size))) ([(s2.heap.objs.size, lobj its k)] ++ pinsAt fp s5.heap) (some v :: σ) H5 s6 := I6
      refine thn (ht cl HH.objs.size s2 H2 fp (X.pn ++ pins) _ _ s6 _ H5 _ I6' (step v H5 y5)) fun c s7 ⟨H7, I7, q7⟩ => ?_
      -- what the block's state says of the iterator and the list
      have again : ∀ {H9 : Hp} {s9 : Shared} {σ9 : St} {zs : List V} {jts : List Value} {k' : Nat}, Inv (cxLCE X NB scope cl HH.objs.size x s2 H2 fp (X.pn ++ pins) (notedBy (model X.prog X.w) X.A (compEnvC scope cl HH.objs.size X.env) (outE X HH.objs.size))) ([(s2.heap.objs.size, lobj jts k')] ++ pinsAt fp s5.heap) (some v :: σ) H9 s9 → Vals zs jts → zs.length ≤ sizeLine → NN zs H9 →
          ∃ m, m < n ∧ ∃ i ys its k H', Inv (cxLCE X NB scope cl HH.objs.size x s2 H2 fp (X.pn ++ pins) (notedBy (model X.prog X.w) X.A (compEnvC scope cl HH.objs.size X.env) (outE X HH.objs.size))) [(s2.heap.objs.size, lobj its k)] (none :: σ) H' s9 ∧ Vals ys its ∧ ys.length ≤ sizeLine ∧ tn i s9.heap ∧ (∀ b ∈ fp, H' b = none) ∧ W i m ys H' := fun {H9 s9 σ9 zs jts k'} I9 r9 z9 n9 => by
        obtain ⟨m', hm, w9⟩ := hNN zs H9 n9
        refine ⟨m', hm, i + 1, zs, jts, k', H9, (I9.unpinned.weak (σ' := none :: σ) rfl fun j v' e => ?_), r9, z9, T.keep _ _ _ st5 fun b hb o e => (I9.pin (b, o) (List.mem_append_right _ (List.mem_append_right _ (mem_pinsAt hb e)))).1, fun b hb => ?_, w9⟩
        · cases j with
          | zero => cases e
          | succ j => exact e
        · obtain ⟨o, e, d⟩ := T.obj _ _ st5 b hb
          exact (I9.pin (b, o) (List.mem_append_right _ (List.mem_append_right _ (mem_pinsAt hb e)))).2.1
      cases c with
      | false =>
        simp only [Bool.false_eq_true, if_false] at q7 ⊢
        exact again (σ9 := []) I7 r3 z3 q7
      | true =>
        simp only [if_true] at q7 ⊢
        refine thn (he cl HH.objs.size s2 H2 fp (X.pn ++ pins) _ pass _ s7 _ H7 _ I7 q7) fun u8 s8 ⟨y, H8, I8, r8, q8⟩ => ?_
        have pD := I8.pin (s2.heap.objs.size, lobj its k) (List.mem_append_right _ (List.mem_append_left _ List.mem_cons_self))
        refine append_at (hsz := by rw [List.size_toArray, ← r3.length]; exact z3) pD.1 fun h9 sb9 hD9 => ?_
        have e9 : ({ cls := .type "list", data := .seq (its.toArray.push u8) (k + 1) } : Obj) = lobj (its ++ [u8]) (k + 1) := by
          show _ = ({ cls := .type "list", data := .seq (its ++ [u8]).toArray (k + 1) } : Obj)
          rw [List.push_toArray]
        rw [e9] at hD9
        have Ia : Inv (cxLCE X NB scope cl HH.objs.size x s2 H2 fp (X.pn ++ pins) (notedBy (model X.prog X.w) X.A (compEnvC scope cl HH.objs.size X.env) (outE X HH.objs.size))) (pinsAt fp s5.heap) (some v :: σ) H8 s8 := I8.pins_of fun p hp => I8.pin p (List.mem_append_right _ (List.mem_append_right _ hp))
        have nfp : ∀ p ∈ pinsAt fp s5.heap, p.1 ≠ s2.heap.objs.size := fun p hp => (below _ (hfplt _ (of_pinsAt hp).1)).2
        have Ib : Inv (cxLCE X NB scope cl HH.objs.size x s2 H2 fp (X.pn ++ pins) (notedBy (model X.prog X.w) X.A (compEnvC scope cl HH.objs.size X.env) (outE X HH.objs.size))) (pinsAt fp s5.heap) (some v :: σ) H8 { s8 with heap := h9, toks := s8.toks } := by
          refine Ia.turned (it := s2.heap.objs.size) (fun b o hb e => (sb9.2 b hb).trans e) pD.2.1 pD.2.2.1 (.inr (Nat.le_refl _)) (fun y' c e z => absurd (celt _ _ (hcl1 _ _ e)) (by rw [z]; exact Nat.lt_irrefl _)) fun p hp => ?_
          rcases List.mem_append.mp hp with hp | hp
          · exact (below _ (Heap.lt_size (I2.pin p hp).1)).2
          · exact nfp p hp
        refine again (σ9 := []) (zs := ys ++ [y]) (jts := its ++ [u8]) (k' := k + 1) (Ib.pins_of fun p hp => ?_) (r3.append (.cons r8 .nil)) (by rw [List.length_append]; exact zlt) q8
        rcases List.mem_append.mp hp with hp | hp
        · have ep : p = (s2.heap.objs.size, lobj (its ++ [u8]) (k + 1)) := by simpa using hp
          subst ep
          exact ⟨hD9, pD.2.1, pD.2.2.1, pD.2.2.2.1, fun v z => nomatch z⟩
        · exact Ib.pin p (List.mem_append_right _ hp)
  exact codeAny_compStart_list (loop _) (T.self _ 0 _ _ _ (T.keep _ _ _ st2 fun b _ o e => old b o e) (loop _))
theorem ps_setLCX {X : Cx} (NB : List Str) {i : Nat} {x y : Str} {px py : Pos} {iter elt : Expr} {ifs : List Expr} {scope : Scope} {pos spos : Pos} {EX : XK} {wi : TI} {tc : TT} {te : TE} (hout : Outs X EX) (hc : X.calm = true) (hN : X.N.Nodup) (hi' : X.N[i]? = some y) (hy : X.env.scope.names.lookup y = some .local) (hi : PI X (.Name x px) iter wi)
    (ht : ∀ cl C s0 H0 fp pn xe, PTs (cxLCE X NB scope cl C x s0 H0 fp pn xe) ifs tc) (he : ∀ cl C s0 H0 fp pn xe, Passes (CX1 X.prog X.w) (cxLCE X NB scope cl C x s0 H0 fp pn xe) EX → PE (cxLCE X NB scope cl C x s0 H0 fp pn xe) elt te) (hok : lcOkS X.N NB scope.names X.env.scope.names x = true) (hndB : NB.Nodup := by decide +kernel) (hkind : scope.kind = .function := by rfl)
    (hs : ∀ x, foldedSetIterable iter X.env x = pure x := by intro _; rfl) (hsw : swapsWith (.ListComp elt [⟨.Name x px, iter, ifs, 0⟩] scope pos) (some (.Name y py)) spos.line X.env = pure true := by rfl) :
    PS X (.Assign [.Name y py] (.ListComp elt [⟨.Name x px, iter, ifs, 0⟩] scope pos) spos) (tAsg (tLC wi tc te) (gName i)) := by
  unfold lcOkS lcOk at hok
  rw [Bool.and_eq_true, Bool.and_eq_true, Bool.and_eq_true, Bool.and_eq_true, List.all_eq_true, List.all_eq_true, List.all_eq_true, beq_iff_eq] at hok
  obtain ⟨⟨hl, hz⟩, h1, h2, h3⟩ := hok
  intro pins s σ H D I h
  rw [exec_Assign_Name_used _ _ _ _ hsw]
  refine wpAny_bind (wpAny_standAt (wpAny_bind ?_))
  show wpAny _ _ (do let _ ← comprehension (.ListComp elt [⟨.Name x px, iter, ifs, 0⟩] scope pos) scope X.env _ (newList []) false (eval iter X.env) (some (assign (.Name y py) X.env))) _ _ s
  refine wpAny_bind (wpAny_mono (lc_coreX NB (some (assign (.Name y py) X.env)) (fun _ s' => SP X pins D .next s') hout hc hi ht he hl (fun j z e => ?_) hndB (fun z hz => ?_) (by simpa using h2) (fun z hz e => ?_) (fun z hz => ?_) (fun z hz e => ?_) hkind hs I h fun Dd C s4 H4 m hm hsz hCL hCf hCc hCp hCn hInv hq => ?_)
    (fun _ s' hq => wpAny_pure (wpAny_pure hq)) fun _ _ e => e)
  · have hj : j < NB.length := (List.getElem?_eq_some_iff.mp e).1
    have hj' : j < X.N.length := by omega
    have hm : (z, X.N[j]) ∈ NB.zip X.N := by
      have : (NB.zip X.N)[j]? = some (z, X.N[j]) := by
        rw [List.getElem?_zip_eq_some]
        exact ⟨e, List.getElem?_eq_getElem hj'⟩
      exact List.mem_of_getElem? this
    have := hz _ hm
    rw [Bool.or_eq_true, beq_iff_eq, beq_iff_eq] at this
    rcases this with h | h
    · left
      rw [List.getElem?_eq_getElem hj']
      exact congrArg some (show X.N[j] = z from h.symm)
    · exact .inr h
  · simpa using h1 z hz
  · have := h3 z hz
    rw [e] at this
    simp at this
    exact this
  · have := h3 z hz
    intro z
    rw [z] at this
    simp at this
  · have := h3 z hz
    rw [e] at this
    simp at this
    exact this
  · have I4 : Inv X pins σ H4 s4 := hInv s4.heap ⟨rfl, fun _ _ => rfl⟩
    obtain ⟨oC, es, ep, hoC, hd, r⟩ := hm
    have I4' : Inv X (pins ++ [(C, oC)]) σ H4 s4 := I4.pins_of fun p hp => by
      rcases List.mem_append.mp hp with hp | hp
      · exact I4.pin p (List.mem_append_right _ hp)
      · have : p = (C, oC) := by simpa using hp
        subst this
        exact ⟨hoC, hCn, hCL, hCf, fun v z => by rw [hd] at z; cases z⟩
    show wpAny _ _ (assign (.Name y py) X.env (.ref Dd)) _ _ _
    refine wpAny_assign_Name (store_ok (v := .ref Dd) I4' hN hi' (.inl hy) rfl (fun s5 I5 => ?_) (.inr hy))
    have pC := I5.pin (C, oC) (List.mem_append_right _ (List.mem_append_right _ List.mem_cons_self))
    refine ⟨m, ⟨oC, es, ep, pC.1, hd, r⟩, fun h' sb => ⟨_, H4, ?_, hq⟩⟩
    exact (I5.pins_of fun p hp => I5.pin p (List.mem_append_right _ (List.mem_append_left _ hp))).turned (it := C) (fun b o hb e => (sb.2 b hb).trans e) hCn hCL (.inr hsz) (fun y' c e z => hCc y' c e z) hCp
end L2
set_option Elab.async false
set_option maxHeartbeats 4000000
namespace L2
open PySem PySem.Spec PyProof.Rows
theorem entry_unchain : entryFor table "proto.unchain" = some Builtin.«proto.unchain» := entryFor_of_fast (by kernel_rfl)
section
variable {prog : Program} {w : World} {A : Around} {E : Value → Shared → Prop} {s : Shared} {env : Env}
/-- an exception that is raised while ea is handled: ea has nothing behind it -/
theorem raiseNew_over {α : Type} {Q : α → Shared → Prop} {e ea : Addr} {o : Obj} {vs : Array Value} (hh : A.handled = some (.ref ea)) (hne : e ≠ ea) (cx : CtxV s.heap ea .none) (he : s.heap.get? e = some o) (hd : o.data = .fields vs) (h2 : 2 < vs.size)
    (k : E (.ref e) { s with heap := s.heap.update e (Obj.mapFields (·.setIfInBounds 2 (.ref ea))) }) : wpAny (model prog w) A (raiseNew (.ref e) : Sem α) Q E s := by
  obtain ⟨oc, us, c1, c2, c3⟩ := cx
  unfold raiseNew
  refine wpAny_bind (wpAny_handled ?_)
  rw [hh]
  dsimp only
  rw [if_pos (by simpa using Ne.symm hne)]
  refine wpAny_bind (wpAny_holding (wpAny_runValue (codeAny_builtin entry_unchain ?_)))
  show wpAny _ _ (Builtin.«proto.unchain» ⟨[.ref e, .ref ea, .ref ea, .bool false], []⟩) _ _ s
  unfold Builtin.«proto.unchain»
  dsimp only
  refine wpAny_bind (wpAny_field c1 c2 c3 ?_)
  rw [if_pos (by simp)]
  refine wpAny_bind (wpAny_pure (wpAny_pure ?_))
  refine wpAny_bind ?_
  have := wpAny_setField (M := model prog w) (A := A) (E := E) (Q := fun _ s' => wpAny (model prog w) A (throw (Value.ref e) : Sem α) Q E s') (x := .ref ea) he hd h2 (wpAny_throw k)
  exact this
variable {nm q : Str} {C N : Addr} {bs bm bmB : List Value} {hdct : Bool} {sn : List Str} {sub : List Value} {ab : Bool} {col : Option Bool} {dd : Option Addr} {k0 k1 k2 k3 k5 : Option Value} {newId : String}
theorem raise_from {x c : Sem Value} {Q : Flow → Shared → Prop} {ea : Addr} (hbase : bm.contains (.type "BaseException") = true) (hh : A.handled = some (.ref ea)) (hc : ∀ {Q' : Value → Shared → Prop} {s1 : Shared}, Q' .none s1 → wpAny (model prog w) A c Q' E s1)
    (h : wpAny (model prog w) A x (fun v s1 => ∃ e t, v = .ref e ∧ s1.heap.get? C = some (excClassObj nm q C N bs bm hdct sn sub ab col dd k0 k1 k2 k3 k5 newId) ∧ s1.heap.get? e = some { cls := .ref C, data := .fields #[.ref t, .none, .none, .none, .bool false, .none] } ∧ e ≠ ea ∧ C ≠ e ∧ CtxV s1.heap ea .none ∧
      ∀ h', (∀ b, b ≠ e → h'.get? b = s1.heap.get? b) → (∃ o, h'.get? e = some o ∧ o.cls = .ref C ∧ o.data = .fields #[.ref t, .none, .ref ea, .none, .bool true, .none]) → E (.ref e) { s1 with heap := h' }) E s) :
    wpAny (model prog w) A (raiseStmt env (some x) (some c)) Q E s := by
  have hcB : (Value.ref C :: bm).contains (.type "BaseException") = true := by rw [List.contains_cons, hbase, Bool.or_true]
  unfold raiseStmt
  refine wpAny_bind (wpAny_mono h (fun v s1 h1 => ?_) fun _ _ z => z)
  obtain ⟨e, t, rfl, hC, he, hne, hCe, hcx, k⟩ := h1
  obtain ⟨hp, g, d, tk, os⟩ := s1
  refine wpAny_bind (wpAny_holding (hc (wpAny_bind (wpAny_pure ?_))))
  dsimp only
  refine wpAny_bind (wpAny_holding ?_)
  have ex : ∀ {Q' : Value → Shared → Prop}, Q' (.ref e) ⟨hp, g, d, tk, os⟩ → wpAny (model prog w) A (excFromValue (.ref e) "exceptions must derive from BaseException") Q' E ⟨hp, g, d, tk, os⟩ := fun {Q'} hq => by
    unfold excFromValue
    repeat (first | with_reducible refine wpAny_loadPart_at he ?_ | with_reducible refine wpAny_loadPart_at hC ?_ | (with_reducible refine wpAny_isSubtype_exc hC ?_; rw [hcB]) | wp_step)
    try exact hq
  refine ex ?_
  rw [if_pos (by simp)]
  refine wpAny_bind (wpAny_pure ?_)
  obtain ⟨o1, e1, e2, e3⟩ := fld_at (i := 3) (x := Value.none) he rfl
  refine wpAny_bind (wpAny_setField he rfl (by show 3 < 6; decide) ?_)
  obtain ⟨o2, f1, f2, f3⟩ := fld_at (i := 4) (x := Value.bool true) e1 e3
  refine wpAny_bind (wpAny_setField e1 e3 (by show 4 < 6; decide) ?_)
  have hC2 : ((hp.update e (Obj.mapFields (·.setIfInBounds 3 Value.none))).update e (Obj.mapFields (·.setIfInBounds 4 (Value.bool true)))).get? C = some (excClassObj nm q C N bs bm hdct sn sub ab col dd k0 k1 k2 k3 k5 newId) := by
    rw [fld_ne hCe, fld_ne hCe]; exact hC
  have ne2 : ∀ b, b ≠ e → ((hp.update e (Obj.mapFields (·.setIfInBounds 3 Value.none))).update e (Obj.mapFields (·.setIfInBounds 4 (Value.bool true)))).get? b = hp.get? b := fun b hb => by rw [fld_ne hb, fld_ne hb]
  generalize (hp.update e (Obj.mapFields (·.setIfInBounds 3 Value.none))).update e (Obj.mapFields (·.setIfInBounds 4 (Value.bool true))) = h2 at f1 hC2 ne2 ⊢
  have he2 : h2.get? e = some o2 := f1
  have oc : o2.cls = .ref C := f2.trans e2
  obtain ⟨co, dto, dao, slo⟩ := o2
  dsimp only at oc f3
  subst oc f3
  show wpAny (model prog w) A _ Q E ⟨h2, g, d, tk, os⟩
  have typ : ∀ {Q' : Bool → Shared → Prop}, Q' false ⟨h2, g, d, tk, os⟩ → wpAny (model prog w) A (isType (.ref e)) Q' E ⟨h2, g, d, tk, os⟩ := fun {Q'} hq => by
    unfold isType
    repeat (first | with_reducible refine wpAny_loadPart_at he2 ?_ | with_reducible refine wpAny_loadPart_at hC2 ?_ | (with_reducible refine wpAny_isSubtype_exc hC2 ?_; rw [hcB]) | wp_step)
    try exact hq
  refine wpAny_bind (typ ?_)
  rw [if_neg (by decide)]
  have ins : ∀ {Q' : Value → Shared → Prop}, Q' (.ref e) ⟨h2, g, d, tk, os⟩ → wpAny (model prog w) A (raisedInstance (.ref e)) Q' E ⟨h2, g, d, tk, os⟩ := fun {Q'} hq => by
    unfold raisedInstance
    repeat (first | with_reducible refine wpAny_loadPart_at he2 ?_ | with_reducible refine wpAny_loadPart_at hC2 ?_ | (with_reducible refine wpAny_isSubtype_exc hC2 ?_; rw [hcB]) | wp_step)
    try exact hq
  refine wpAny_bind (ins ?_)
  refine wpAny_bind ?_
  unfold setFlight
  refine wpAny_bind (wpAny_field (s := ⟨h2, g, d, tk, os⟩) he2 rfl (x := Value.none) rfl ?_)
  rw [if_neg (by decide)]
  refine wpAny_pure ?_
  obtain ⟨o3, g1, g2, g3⟩ := fld_at (i := 2) (x := Value.ref ea) he2 rfl
  obtain ⟨oc, us, c1, c2, c3⟩ := hcx
  refine raiseNew_over (s := ⟨h2, g, d, tk, os⟩) hh hne ⟨oc, us, (ne2 ea (Ne.symm hne)).trans c1, c2, c3⟩ he2 rfl (by show 2 < 6; decide) ?_
  exact k _ (fun b hb => by rw [fld_ne hb]; exact ne2 b hb) ⟨o3, g1, g2, g3⟩
end
end L2
set_option Elab.async false
set_option maxHeartbeats 4000000
namespace L2
open PySem PySem.Spec PyProof.Rows
section
variable {P : Program} {w : World} {K : PySem.W.Frag} {mg : Str → Option Value} {base : Heap} {N : List Str} {qual : Str} {scope : Scope} {f : Addr} {cd : Value} {A : Around} {outer : List Env} {s : Shared} {H : Hp} {E : XK}
/-- an exception that was made in this def has left it: what that says outside -/
theorem madeOut {pins : List (Addr × Obj)} {σ : St} {H1 : Hp} {s1 : Shared} {h3 : Heap} {e : Addr} {cls a0 : Value} {cx : Option Addr} (I : Inv (cxOf (CX1 P w) P w K mg base N qual scope f cd A outer s H E) pins σ H1 s1) (new : s1.heap.get? e = none)
    (t3 : Tr (PySem.W.hideAll s1.heap (s.heap.objs.size :: frs outer)) outer e cls a0 (cxv cx) .none h3) (up : ∀ b o, s1.heap.get? b = some o → (∀ vs, o.data ≠ .fields vs) → ∃ sl, h3.get? b = some { o with slots := sl }) (hE : E cls cx H1) :
    CX1 P w outer H s E (.ref e) { s1 with heap := h3 } := by
  have hst : frs (cxOf (CX1 P w) P w K mg base N qual scope f cd A outer s H E).stack = s.heap.objs.size :: frs outer := frs_cons _ _ _ rfl
  have noex : ∀ b : Addr, b ∉ (cxOf (CX1 P w) P w K mg base N qual scope f cd A outer s H E).ex := fun b z => nomatch z
  have fly3 := t3.fly
  have inB : ∀ b o, s1.heap.get? b = some o → b ∉ s.heap.objs.size :: frs outer → (PySem.W.hideAll s1.heap (s.heap.objs.size :: frs outer)).get? b = some o := fun b o q n => PySem.W.hideAll_get _ q n
  have ne0 : ∀ b o, s.heap.get? b = some o → b ∉ frs outer → b ∉ s.heap.objs.size :: frs outer := fun b o q n z => by
    rcases List.mem_cons.mp z with y | y
    · rw [y] at q; exact absurd (Heap.lt_size q) (Nat.lt_irrefl _)
    · exact n y
  have trk : ∀ b u, H1 b = some u → b ∉ s.heap.objs.size :: frs outer := fun b u q z => by
    have := I.stkFree b (by rw [hst]; exact z)
    rw [q] at this; cases this
  have nf : ∀ b o, s.heap.get? b = some o → b ∈ frs outer → ∀ vs, o.data ≠ .fields vs := fun b o q hb vs => by
    obtain ⟨_, o', ho, hd⟩ := I.ok.funs.mem hb
    have ho' : s.heap.get? b = some o' := ho
    rw [q] at ho'; cases ho'
    exact hd vs
  have sl : ∀ b o, s.heap.get? b = some o → H b = none → b ∈ frs outer → ∃ sl, h3.get? b = some { o with slots := sl } := fun b o q n hb => by
    obtain ⟨s1', e1⟩ := I.base.slot b o q n hb (noex b)
    obtain ⟨s3', e3⟩ := up b _ e1 (nf b o q hb)
    exact ⟨s3', e3⟩
  refine ⟨e, cls, a0, cx, _, H1, rfl, ⟨I.os, I.bare, ⟨fun b o q n hb _ => fly3.1 b o (inB b o (I.base.keep b o q n hb (noex b)) (ne0 b o q hb)), fun b o q n hb _ => sl b o q n hb, fun b o q n _ => I.base.free b o q n (noex b), fun b o q _ => ?_, I.base.tups, I.base.frzs, I.base.tbls⟩,
    fun b u q => ?_, fly3, ?_, fun b hb => ?_, fun b o q n hb => inB b o (I.base.keep b o q n hb (noex b)) (ne0 b o q hb), fun b o q hb => ?_, t3.cx, hE⟩⟩
  · by_cases hb : b ∈ frs outer
    · obtain ⟨sl', e'⟩ := sl b o q (I.ok.frf b hb) hb
      exact ⟨_, e'⟩
    · obtain ⟨o1, e1⟩ := I.base.there b o q (noex b)
      exact ⟨o1, fly3.1 b o1 (inB b o1 e1 (ne0 b o q hb))⟩
  · refine (I.hok b u q).stay (fun c v hc z => ?_) (fun _ z => z) fun _ _ z => z
    have : c ∉ s.heap.objs.size :: frs outer := by
      rcases hc with rfl | hc
      · exact trk c u q
      · exact trk c _ hc
    exact fly3.1 c v (inB c v z this)
  · cases q : s.heap.get? e with
    | none => rfl
    | some o =>
      obtain ⟨o1, e1⟩ := I.base.there e o q (noex e)
      rw [new] at e1; cases e1
  · cases q : H1 b with
    | none => exact absurd q hb
    | some u =>
      obtain ⟨ob, z⟩ := (I.hok b u q).there
      exact ⟨ob, inB b ob z (trk b u q)⟩
  · obtain ⟨o1, e1⟩ := I.base.there b o q (noex b)
    exact ⟨o1, inB b o1 e1 (ne0 b o q hb)⟩
end
section
variable {prog : Program} {w : World} {A : Around} {E : Value → Shared → Prop} {s : Shared} {env : Env}
variable {nm q : Str} {C N : Addr} {bs bm bmB : List Value} {hdct : Bool} {sn : List Str} {sub : List Value} {ab : Bool} {col : Option Bool} {dd : Option Addr} {k0 k1 k2 k3 k5 : Option Value} {B newId initId : String}
/-- C(..) for an own class of exceptions -/
theorem eval_exc (F : ExcBaseFacts B newId initId bmB) {mN : Str → Option Value} {x : Str} {np cpos : Pos} {args : List Expr} {Q : Value → Shared → Prop} (hplain : (backTo cpos (starEach args env)).any (·.1) = false) (hni : mN "__init__" = none)
    (h : wpAny (model prog w) A (eval (.Name x np) env) (fun g s1 => g = .ref C ∧ wpAny (model prog w) A (evalArgs (.ref C) true (backTo cpos (starEach args env)) []) (fun a s2 => a.kw = [] ∧ a.pos.length ≤ sizeLine ∧
      s2.heap.get? C = some (excClassObj nm q C N bs bm hdct sn sub ab col dd k0 k1 k2 k3 k5 newId) ∧ s2.heap.Ns N mN ∧ OwnTail s2.heap bmB bm ∧ ∀ h' e, Heap.MadeExcOf s2.heap h' e (.ref C) a.pos → Q (.ref e) { s2 with heap := h' }) E s1) E s) :
    wpAny (model prog w) A (eval (.Call (.Name x np) args [] cpos) env) Q E s := by
  refine wpAny_Call_ofName (thn h fun g s1 ⟨hg, h1⟩ => ?_)
  subst hg
  unfold callWith
  refine wpAny_bind (wpAny_holding (thn h1 fun a s2 ⟨hk, hl, hC, hn, T, k⟩ => wpAny_bind (wpAny_standAt ?_)))
  obtain ⟨ps, kw⟩ := a
  subst hk
  obtain ⟨hp, g, d, tk, os⟩ := s2
  simp only [hplain]
  refine wpAny_bind (wpAny_keeperOf_exc hC ?_)
  exact wpAny_bind (wpAny_call_exc_subT (hrest := hl) F T hC hn hni fun h' e mk => wpAny_bind (wpAny_holding (wpAny_point (wpAny_pure (k h' e mk)))))
end
/-- an exception that has nothing behind it -/
def ctxO (a : Addr) : HO := .ext fun h => CtxV h a .none
section
variable {P : Program} {w : World} {K : PySem.W.Frag} {mg : Str → Option Value} {base : Heap} {N : List Str} {qual : Str} {scope : Scope} {f : Addr} {cd : Value} {A : Around} {outer : List Env} {s : Shared} {H : Hp} {E : XK}
/-- try: .. except CF: raise C(..) from None -/
def tTryR (K : PySem.W.Frag) (CF C : Addr) (EE E : XK) (tb : TS) (ta : TA) : TS := fun D σ H => tb D σ H ∧ ∀ cls cx H' ea, EE cls cx H' → H' ea = none → cx = none ∧ PySem.W.exmOne K cls (.ref CF) = some true ∧
  ta (List.replicate σ.length none) (upd H' ea (ctxO ea)) fun vs H1 => vs.length ≤ sizeLine ∧ H1 ea = some (ctxO ea) ∧ E (.ref C) (some ea) H1
theorem ps_tryR {x y : Str} {CF C : Addr} {EE : XK} {tb : TS} {ta : TA} {body : List Stmt} {e₀ : Expr} {rest : List Expr} {np yp cpos rpos hp pos kp : Pos} {kj : Nat} (hm : mg x = some (.ref CF)) (hmy : mg y = some (.ref C)) (hq : PySem.W.excIn K C bmVE "ValueError.__new__" = true)
    (hb : ∀ pn E', PassesOwn (model P w) (A.deeper (envOfC qual scope s.heap.objs.size f cd)) (envOfC qual scope s.heap.objs.size f cd) E' → Passes (CX1 P w) (cxT (cxOf (CX1 P w) P w K mg base N qual scope f cd A outer s H E) pn E') EE → PSs (cxT (cxOf (CX1 P w) P w K mg base N qual scope f cd A outer s H E) pn E') body tb)
    (ha : ∀ ea, PA (cxM (cxOf (CX1 P w) P w K mg base N qual scope f cd A outer s H E) ea) (e₀ :: rest) ta) (hg : Gl (cxOf (CX1 P w) P w K mg base N qual scope f cd A outer s H E) x := by rfl) (hgy : Gl (cxOf (CX1 P w) P w K mg base N qual scope f cd A outer s H E) y := by rfl)
    (hd : (x == ("__debug__" : Str)) = false := by decide) (hdy : (y == ("__debug__" : Str)) = false := by decide)
    (he : starEach (e₀ :: rest) (envOfC qual scope s.heap.objs.size f cd) = (false, eval e₀ (envOfC qual scope s.heap.objs.size f cd)) :: starEach rest (envOfC qual scope s.heap.objs.size f cd) := by rfl)
    (hpl : (backTo cpos (starEach rest (envOfC qual scope s.heap.objs.size f cd))).any (·.1) = false := by rfl) :
    PS (cxOf (CX1 P w) P w K mg base N qual scope f cd A outer s H E) (.Try body [.ExceptHandler (some (.Name x np)) none [.Raise (some (.Call (.Name y yp) (e₀ :: rest) [] cpos)) (some (.Constant .none kj kp)) rpos] hp] [] [] pos) (tTryR K CF C EE E tb ta) := by
  intro pins s1 σ H1 D I h
  obtain ⟨h1, h2⟩ := h
  refine wpAny_Try_except ?_
  have O := own_at (bmB := bmVE) (newId := "ValueError.__new__") I.ok.mod.kin hmy hq
  obtain ⟨tl, NN, nm, q, bs, hdct, sn, sub, ab, col, dd, k0, k1, k2, k3, k5, mN, hC, hN, hni, T⟩ := O.obj
  have pass : Passes (CX1 P w) (cxT (cxOf (CX1 P w) P w K mg base N qual scope f cd A outer s H E) ((cxOf (CX1 P w) P w K mg base N qual scope f cd A outer s H E).pn ++ pins) fun e s₁ => wpAny (model P w) (cxOf (CX1 P w) P w K mg base N qual scope f cd A outer s H E).A (noteFrame e (cxOf (CX1 P w) P w K mg base N qual scope f cd A outer s H E).env) (fun _ s₂ => wpAny (model P w) (cxOf (CX1 P w) P w K mg base N qual scope f cd A outer s H E).A (setFlight e none) (fun _ s₃ =>
      wpAny (model P w) (cxOf (CX1 P w) P w K mg base N qual scope f cd A outer s H E).A (handleBy e (cxOf (CX1 P w) P w K mg base N qual scope f cd A outer s H E).env [.ExceptHandler (some (.Name x np)) none [.Raise (some (.Call (.Name y yp) (e₀ :: rest) [] cpos)) (some (.Constant .none kj kp)) rpos] hp]) (SP (cxOf (CX1 P w) P w K mg base N qual scope f cd A outer s H E) pins D) (cxOf (CX1 P w) P w K mg base N qual scope f cd A outer s H E).xe s₃) (cxOf (CX1 P w) P w K mg base N qual scope f cd A outer s H E).xe s₂) (cxOf (CX1 P w) P w K mg base N qual scope f cd A outer s H E).xe s₁) EE := by
    intro pins1 σ1 H2 s2 e s3 I2 hc
    obtain ⟨ea, cls, a0, cx, B, H3, rfl, F⟩ := hc
    have F' : Flew (cxOf (CX1 P w) P w K mg base N qual scope f cd A outer s H E).prog (cxOf (CX1 P w) P w K mg base N qual scope f cd A outer s H E).w (cxOf (CX1 P w) P w K mg base N qual scope f cd A outer s H E).stack H2 s2 EE ea s3 cls a0 cx B H3 := F
    have fly : Heap.FlyingW B ((envOfC qual scope s.heap.objs.size f cd) :: outer) ea cls a0 s3.heap := F'.fly
    have hH3 : H3 ea = none := by
      cases z : H3 ea with
      | none => rfl
      | some u =>
        obtain ⟨o, eo⟩ := F'.kt ea (by rw [z]; simp)
        rw [fly.2.1] at eo; cases eo
    obtain ⟨ecx, hx, hq2⟩ := h2 cls cx H3 ea F'.wish hH3
    subst ecx
    show wpAny (model P w) (cxOf (CX1 P w) P w K mg base N qual scope f cd A outer s H E).A (noteFrame (.ref ea) (envOfC qual scope s.heap.objs.size f cd)) _ (cxOf (CX1 P w) P w K mg base N qual scope f cd A outer s H E).xe s3
    refine Tr.note (s := s3) (t := ⟨fly.1, fly.2.1, fly.2.2.1, fly.2.2.2, F'.ctx⟩) I.ok.frames rfl fun h4 t4 up4 => ?_
    refine t4.flight (s := { s3 with heap := h4 }) (f := none) fun h5 t5 up5 => ?_
    have J5 := landed (X := (cxOf (CX1 P w) P w K mg base N qual scope f cd A outer s H E)) (pins := pins) rfl I2 F' t5.st (up4.trans up5) s3.toks
    obtain ⟨ob, hob, hoc⟩ := t5.fly.there
    refine wpAny_handleBy_cons (codeAny_handlers_test ?_) (by intro z; cases z)
    refine ld_glob (X := cxM (cxOf (CX1 P w) P w K mg base N qual scope f cd A outer s H E) ea) J5 hg hm ?_ hd
    refine (PySem.W.exm_one J5.kIn (looks_cls hob hoc) hx).here ?_
    refine codeAny_handlers_suite (t5.flight (s := { s3 with heap := h5 }) (f := none) fun h6 t6 up6 => ?_)
    have J6 := landed (X := (cxOf (CX1 P w) P w K mg base N qual scope f cd A outer s H E)) (pins := pins) rfl I2 F' t6.st ((up4.trans up5).trans up6) s3.toks
    obtain ⟨ob6, hob6, hoc6⟩ := t6.fly.there
    have newE : s2.heap.get? ea = none := F'.new
    have neOld : ∀ b ob, s2.heap.get? b = some ob → b ≠ ea := fun b ob z w => by rw [w, newE] at z; cases z
    have J6' : Inv (cxM (cxOf (CX1 P w) P w K mg base N qual scope f cd A outer s H E) ea) pins (List.replicate (cxOf (CX1 P w) P w K mg base N qual scope f cd A outer s H E).N.length none) (upd H3 ea (ctxO ea)) { s3 with heap := h6, toks := s3.toks } := by
      refine J6.track hH3 ?_ ?_ (fun y c z => ?_) (fun p hp => ?_) ⟨t6.cx, ⟨ob6, hob6⟩, fun g1 g2 ⟨o, vs, e1, e2, e3⟩ k => ⟨o, vs, k o e1, e2, e3⟩⟩
      · cases z : (cxOf (CX1 P w) P w K mg base N qual scope f cd A outer s H E).s₀.heap.get? ea with
        | none => exact z
        | some o =>
          obtain ⟨o1, z1⟩ := I2.base.there ea o z (fun w => nomatch w)
          rw [newE] at z1; cases z1
      · obtain ⟨m, ⟨o, _, _, ho, _⟩, _⟩ := I2.loc
        exact (neOld _ o ho).symm
      · obtain ⟨v, o, ho, _⟩ := I2.cell y c z
        exact neOld _ o ho
      · exact neOld _ _ (I2.pin p (List.mem_append_left _ hp)).1
    refine wpAny_execs_cons ?_
    rw [arm_exec_Raise]
    simp only [evalOpt, Option.map]
    refine wpAny_bind (wpAny_standAt (raise_from (C := C) (nm := nm) (q := q) (N := NN) (bs := bs) (bm := tl) (hdct := hdct) (sn := sn) (sub := sub) (ab := ab) (col := col) (dd := dd) (k0 := k0) (k1 := k1) (k2 := k2) (k3 := k3) (k5 := k5) (newId := "ValueError.__new__") (ea := ea) (T.hasType PySem.F.excBase_ValueError.hasBase) rfl (fun hQ => ?_) ?_))
    · exact wpAny_bind (Constant_none (wpAny_bind (wpAny_standAt (wpAny_pure hQ))))
    refine wpAny_bind (thn (eval_exc (C := C) (nm := nm) (q := q) (N := NN) (bs := bs) (bm := tl) (hdct := hdct) (sn := sn) (sub := sub) (ab := ab) (col := col) (dd := dd) (k0 := k0) (k1 := k1) (k2 := k2) (k3 := k3) (k5 := k5) PySem.F.excBase_ValueError (mN := mN) (by show (backTo cpos (starEach (e₀ :: rest) (envOfC qual scope s.heap.objs.size f cd))).any (·.1) = false; rw [he]; show (false || (backTo cpos (starEach rest _)).any (·.1)) = false; rw [hpl]; rfl) hni (ld_glob (X := cxM (cxOf (CX1 P w) P w K mg base N qual scope f cd A outer s H E) ea) J6' hgy hmy ⟨rfl, ?_⟩ hdy)) fun v s4 h4 => wpAny_bind (wpAny_standAt (wpAny_pure h4)))
    have hA := ha ea cpos pins _ _ _ _ J6' (by rw [← I.len]; exact hq2)
    have he' : starEach (e₀ :: rest) (cxM (cxOf (CX1 P w) P w K mg base N qual scope f cd A outer s H E) ea).env = (false, eval e₀ (envOfC qual scope s.heap.objs.size f cd)) :: starEach rest (envOfC qual scope s.heap.objs.size f cd) := he
    show wpAny (model P w) (cxM (cxOf (CX1 P w) P w K mg base N qual scope f cd A outer s H E) ea).A (evalArgs (.ref C) true (backTo cpos (starEach (e₀ :: rest) (envOfC qual scope s.heap.objs.size f cd))) []) _ _ _
    rw [he'] at hA
    rw [he]
    refine Calls.evalArgs_plain (wpAny_mono hA (fun us s7 ⟨vs, H7, I7, r, hz, hea, hE⟩ => ⟨rfl, by rw [← r.length]; exact hz, I7.bk _ _ hC, hN.keeps I7.bk, T.keeps I7.bk, fun h8 e8 mk => ?_⟩) fun _ _ z => nomatch z)
    obtain ⟨t, m1, m2, m3⟩ := mk.there
    have cxA : CtxV s7.heap ea .none := (I7.hok ea _ hea).1
    obtain ⟨oc, us2, c1, c2, c3⟩ := cxA
    have nE : e8 ≠ ea := fun z => by have y := mk.new; rw [z, c1] at y; cases y
    have nC : C ≠ e8 := fun z => by have y := mk.new; rw [← z, I7.bk _ _ hC] at y; cases y
    refine ⟨e8, t, rfl, mk.keeps _ _ (I7.bk _ _ hC), m1, nE, nC, ⟨oc, us2, mk.keeps _ _ c1, c2, c3⟩, fun h9 same9 ⟨o9, p1, p2, p3⟩ => ?_⟩
    have I7' : Inv (cxOf (CX1 P w) P w K mg base N qual scope f cd A outer s H E) pins _ H7 s7 := I7.ofM I.ok
    have hst : frs (cxOf (CX1 P w) P w K mg base N qual scope f cd A outer s H E).stack = s.heap.objs.size :: frs outer := frs_cons _ _ _ rfl
    have old9 : ∀ b o, s7.heap.get? b = some o → h9.get? b = some o := fun b o z => (same9 b fun w => by rw [w, mk.new] at z; cases z).trans (mk.keeps b o z)
    have st9 : (PySem.W.hideAll s7.heap (s.heap.objs.size :: frs outer)).StaysIn h9 := fun b o z => old9 b o (PySem.W.of_hideAll _ z)
    have nw9 : (PySem.W.hideAll s7.heap (s.heap.objs.size :: frs outer)).get? e8 = none := by
      cases z : (PySem.W.hideAll s7.heap (s.heap.objs.size :: frs outer)).get? e8 with
      | none => rfl
      | some o => have y := PySem.W.of_hideAll _ z; rw [mk.new] at y; cases y
    have fr7 : s7.heap.FunFrames (PySem.W.hideAll s7.heap (s.heap.objs.size :: frs outer)) ((envOfC qual scope s.heap.objs.size f cd) :: outer) :=
      PySem.W.funFrames_hide (show s7.heap.FunFrames base ((envOfC qual scope s.heap.objs.size f cd) :: outer) from I7'.stack) fun env henv a hae => by rw [← hst]; exact List.mem_filterMap.mpr ⟨env, henv, hae⟩
    have fr9 := up_frames (Heap.UpToSlots.of_keeps old9) fr7
    show wpAny (model P w) (cxM (cxOf (CX1 P w) P w K mg base N qual scope f cd A outer s H E) ea).A (noteFrame (.ref e8) (envOfC qual scope s.heap.objs.size f cd)) _ _ _
    refine noteFirst (s := { s7 with heap := h9 }) (c := .ref ea) (a0 := .ref t) I7.ok.frames rfl st9 nw9 fr9 p1 p3 rfl rfl rfl fun h10 t10 u10 => ?_
    obtain ⟨oe, vs10, T10, oT, ts, q1, q2, q3, q4, q5, q6, q7⟩ := t10.put
    show wpAny (model P w) (cxOf (CX1 P w) P w K mg base N qual scope f cd A outer s H E).A _ (fun _ s'' => (cxOf (CX1 P w) P w K mg base N qual scope f cd A outer s H E).xe (.ref e8) s'') (cxOf (CX1 P w) P w K mg base N qual scope f cd A outer s H E).xe { s7 with heap := h10 }
    refine wpAny_bind (wpAny_field (s := { s7 with heap := h10 }) q1 q2 q3 ?_)
    rw [if_neg (by simp)]
    refine t10.flight (s := { s7 with heap := h10 }) fun h11 t11 u11 => ?_
    show wpAny (model P w) (cxOf (CX1 P w) P w K mg base N qual scope f cd A outer s H E).A (leaving (envOfC qual scope s.heap.objs.size f cd) (.ref e8)) _ _ { s7 with heap := h11 }
    refine t11.leave (s := { s7 with heap := h11 }) I.ok.frames rfl fun h12 t12 u12 => ?_
    rw [p2] at t12
    refine madeOut (s1 := s7) (cx := some ea) (a0 := .ref t) I7' mk.new t12 (fun b o z hnf => ?_) hE
    obtain ⟨l1, z1⟩ := u10 b o (old9 b o z) hnf
    obtain ⟨l2, z2⟩ := u11 b _ z1 hnf
    obtain ⟨l3, z3⟩ := u12 b _ z2 hnf
    exact ⟨l3, z3⟩
  refine wpAny_mono (hb ((cxOf (CX1 P w) P w K mg base N qual scope f cd A outer s H E).pn ++ pins) _ PassesOwn.looking pass [] s1 σ H1 D (I.toT _) h1) (fun fl s2 r => ?_) (fun _ _ z => z)
  cases fl with
  | next => obtain ⟨σ', H', J, d⟩ := r; exact wpAny_execs_nil ⟨σ', H', J.ofT, d⟩
  | brk => obtain ⟨σ', H', J, d⟩ := r; exact ⟨σ', H', J.ofT, d⟩
  | cont => obtain ⟨σ', H', J, d⟩ := r; exact ⟨σ', H', J.ofT, d⟩
  | ret u => obtain ⟨v, σ', H', J, rv, d⟩ := r; exact ⟨v, σ', H', J.ofT, rv, d⟩
end
end L2
set_option Elab.async false
set_option maxHeartbeats 4000000
set_option maxRecDepth 20000
namespace TX
open PySem
abbrev sg (x : Str) : List Nat := x.cps.toList
theorem sg_inj {x y : Str} (h : sg x = sg y) : x = y := Str.ext' (by simpa using h)
theorem sg_app (x y : Str) : sg (x ++ y) = sg x ++ sg y := by
  show (x ++ y).cps.toList = _
  rw [Str.cps_append]; simp
def num (n : Nat) : Str := Str.ofString (toString (n : Int))
def okNum (n : Nat) : Bool := decide (1 ≤ (num n).length) && decide ((num n).length ≤ 4) && ((num n).cps.toList.all fun c => decide (48 ≤ c) && decide (c ≤ 57)) && (decide ((num n).cps[0]? = some 48) == decide (n = 0))
theorem all_ok : (List.range 1001).all okNum = true := by decide +kernel
theorem ok_num {n : Nat} (h : n ≤ 1000) : okNum n = true := List.all_eq_true.mp all_ok n (List.mem_range.mpr (by omega))
theorem num_len {n : Nat} (h : n ≤ 1000) : 1 ≤ (num n).length ∧ (num n).length ≤ 4 := by
  have := ok_num h
  unfold okNum at this
  simp only [Bool.and_eq_true, decide_eq_true_eq] at this
  exact ⟨this.1.1.1, this.1.1.2⟩
theorem num_digits {n : Nat} (h : n ≤ 1000) : ∀ c ∈ sg (num n), 48 ≤ c ∧ c ≤ 57 := by
  have := ok_num h
  unfold okNum at this
  simp only [Bool.and_eq_true] at this
  intro c hc
  have := List.all_eq_true.mp this.1.2 c hc
  simpa using this
def figs : Str := ("0123456789" : String)
def sep : Str := (" " : String)
def col : Str := (":" : String)
def dash : Str := ("-" : String)
theorem sep_is : sep = ⟨#[32]⟩ := by decide +kernel
theorem col_is : col = ⟨#[58]⟩ := by decide +kernel
/-- what stands ahead of the colon -/
def eld (es : List Nat) (k : Nat) : Str := if k = 0 then dash else num (es.getD (k - 1) 0)
def word (es ws : List Nat) (k : Nat) : Str := eld es k ++ col ++ num (ws.getD k 0)
def words (es ws : List Nat) : List Str := (List.range (es.length + 1)).map (word es ws)
def text (es ws : List Nat) : Str := Str.join sep (words es ws)
open TM
theorem w_le {es ws : List Nat} (G : Good es ws) {k : Nat} : ws.getD k 0 ≤ 1000 := by
  by_cases h : k < ws.length
  · rw [List.getD_eq_getElem?_getD, List.getElem?_eq_getElem h]; exact G.wo _ (List.getElem_mem h)
  · rw [List.getD_eq_getElem?_getD, List.getElem?_eq_none (by omega)]; exact Nat.zero_le _
theorem e_le {es ws : List Nat} (G : Good es ws) {k : Nat} : es.getD k 0 ≤ 1000 := by
  by_cases h : k < es.length
  · have := G.lt k h
    have := G.len
    have := G.most
    omega
  · rw [List.getD_eq_getElem?_getD, List.getElem?_eq_none (by omega)]; exact Nat.zero_le _
theorem eld_len {es ws : List Nat} (G : Good es ws) (k : Nat) : 1 ≤ (eld es k).length ∧ (eld es k).length ≤ 4 := by
  unfold eld
  split
  · decide +kernel
  · exact num_len (e_le G)
theorem word_len {es ws : List Nat} (G : Good es ws) (k : Nat) : (word es ws k).length ≤ 9 := by
  unfold word
  rw [Str.length_append, Str.length_append]
  have := (eld_len G k).2
  have := (num_len (w_le G (k := k))).2
  have : col.length = 1 := by decide +kernel
  omega
theorem join_more (s a : Str) : ∀ l : List Str, l ≠ [] → Str.join s (l ++ [a]) = Str.join s l ++ s ++ a
  | [], h => absurd rfl h
  | [x], _ => rfl
  | x :: y :: r, _ => by
    have ih := join_more s a (y :: r) (by simp)
    show x ++ s ++ Str.join s (y :: r ++ [a]) = x ++ s ++ Str.join s (y :: r) ++ s ++ a
    rw [ih]
    simp only [Str.append_assoc]
/-- the first k words -/
def textTo (es ws : List Nat) (k : Nat) : Str := Str.join sep ((List.range k).map (word es ws))
theorem textTo_one (es ws : List Nat) : textTo es ws 1 = word es ws 0 := rfl
theorem textTo_succ (es ws : List Nat) {k : Nat} (h : 0 < k) : textTo es ws (k + 1) = textTo es ws k ++ sep ++ word es ws k := by
  unfold textTo
  rw [List.range_succ, List.map_append]
  show Str.join sep (_ ++ [word es ws k]) = _
  refine join_more _ _ _ fun e => ?_
  have := congrArg List.length e
  rw [List.length_map, List.length_range] at this
  exact absurd this (by simp; omega)
theorem textTo_all (es ws : List Nat) : textTo es ws (es.length + 1) = text es ws := rfl
theorem textTo_len {es ws : List Nat} (G : Good es ws) : ∀ k, (textTo es ws (k + 1)).length ≤ 10 * (k + 1)
  | 0 => by rw [textTo_one]; have := word_len G 0; omega
  | k + 1 => by
    have h1 := textTo_len G k
    have h2 := word_len G (k + 1)
    have h3 : sep.length = 1 := by decide +kernel
    have h4 : (textTo es ws (k + 1 + 1)).length = (textTo es ws (k + 1)).length + sep.length + (word es ws (k + 1)).length := by
      rw [textTo_succ es ws (Nat.succ_pos k), Str.length_append, Str.length_append]
    rw [h4, h3]
    omega
end TX
set_option Elab.async false
set_option maxHeartbeats 4000000
namespace L2
open PySem PySem.Spec PyProof.Rows
theorem part_of {v : Value} {o : Option Int} (p : IsPart v o) : ∃ q : Option (Int × Tok), v = partValue q ∧ q.map (·.1) = o := by
  cases p with
  | none => exact ⟨none, rfl, rfl⟩
  | int i t => exact ⟨some (i, t), rfl, rfl⟩
def rSlS : V → Option Int → Option Int → Hp → VK → Prop := fun x lo hi H Q => ∃ z, x = .str z ∧ z.length ≤ sizeLine ∧ Q (.str (Txt.slice z lo hi)) H
theorem sl_str {X : Cx} : SlR X rSlS := by
  intro pins s σ H x v vl vu lo hi sl Q I rx hs pl pu h
  obtain ⟨z, rfl, hz, q⟩ := h
  obtain ⟨t, rfl⟩ := rx
  obtain ⟨a, rfl, rfl⟩ := part_of pl
  obtain ⟨b, rfl, rfl⟩ := part_of pu
  refine ⟨"str", _, F.slot_str_getitem.lookup, typeIs_str _ _ _, ?_⟩
  exact wpAny_getItem_str_slice (l := a) (u := b) (st := none) hs rfl (post_val_or_str ⟨Nat.le_trans (Txt.slice_le z _ _) hz, fun t' k => ⟨.str (Txt.slice z _ _), H, I.tok k, ⟨t', rfl⟩, q⟩⟩)
/-- the signs of a part are signs of the text -/
theorem slice_mem {z : Str} {lo hi : Option Int} {c : Nat} (h : c ∈ (Txt.slice z lo hi).cps.toList) : c ∈ z.cps.toList := by
  unfold Txt.slice at h
  split at h
  · exact h
  · simp only [List.mem_filterMap] at h
    obtain ⟨i, _, e⟩ := h
    exact Array.mem_toList_iff.mpr (Array.mem_of_getElem? e)
theorem for_str {z : Str} {g : TG} {tb : TS} {D : Ends} {σ : St} {H : Hp} (Pv : Nat → St → Hp → Prop) (h0 : Pv 0 σ H)
    (hs : ∀ i c σ H, z.cps[i]? = some c → Pv i σ H → g (.str ⟨#[c]⟩) σ H fun σ2 H2 => tb { D with nx := Pv (i + 1), ct := Pv (i + 1), bk := D.nx } σ2 H2) (hd : ∀ σ H, Pv z.length σ H → D.nx σ H) :
    ∃ W : Nat → Nat → St → Hp → Prop, (∃ m, W 0 m σ H) ∧ ∀ i m σ H, W i m σ H →
      ((Its z).stop i H ∧ D.nx σ H) ∨ ((Its z).go i H ∧ ∃ N : St → Hp → Prop, (∀ σ' H', N σ' H' → ∃ m', m' < m ∧ W (i + 1) m' σ' H') ∧ ∀ x H', (Its z).yld i H x H' → g x σ H' fun σ2 H2 => tb { D with nx := N, ct := N, bk := D.nx } σ2 H2) := by
  refine ⟨fun i m σ H => m = z.length - i ∧ i ≤ z.length ∧ Pv i σ H, ⟨z.length, by simp, Nat.zero_le _, h0⟩, ?_⟩
  rintro i m σ H ⟨rfl, hi, p⟩
  by_cases hlt : i < z.length
  · refine .inr ⟨hlt, Pv (i + 1), fun σ' H' p' => ⟨z.length - (i + 1), by omega, rfl, hlt, p'⟩, fun x H' y => ?_⟩
    obtain ⟨c, e1, e2, e3⟩ := y
    subst e2 e3
    exact hs i c σ _ e1 p
  · have e : i = z.length := by omega
    subst e
    exact .inl ⟨Nat.le_refl _, hd σ H p⟩
end L2
set_option Elab.async false
set_option maxHeartbeats 4000000
set_option maxRecDepth 40000
namespace TX
open PySem TM
/-- the figures of n, as they must be -/
def figsOf (n : Nat) : List Nat :=
  if n < 10 then [48 + n] else if n < 100 then [48 + n / 10, 48 + n % 10] else if n < 1000 then [48 + n / 100, 48 + n / 10 % 10, 48 + n % 10] else [48 + n / 1000, 48 + n / 100 % 10, 48 + n / 10 % 10, 48 + n % 10]
theorem all_figs : (List.range 10000).all (fun n => (sg (num n) == figsOf n)) = true := by decide +kernel
theorem num_figs {n : Nat} (h : n < 10000) : sg (num n) = figsOf n := by
  have := List.all_eq_true.mp all_figs n (List.mem_range.mpr h)
  simpa using this
end TX
set_option Elab.async false
set_option maxHeartbeats 4000000
set_option maxRecDepth 40000
namespace TX
open PySem TM
def Asc (x : Str) : Prop := ∀ c ∈ sg x, c < 128
theorem Asc.all {x : Str} (h : Asc x) : x.cps.all (· < 128) = true := by
  rw [Array.all_eq_true]
  intro i hi
  have := h x.cps[i] (Array.getElem_mem_toList hi)
  simpa using this
theorem len_sg (x : Str) : x.length = (sg x).length := by show x.cps.size = _; simp
theorem join_mem {s p : Str} {c : Nat} : ∀ {ts : List Str}, p ∈ ts → c ∈ sg p → c ∈ sg (Str.join s ts)
  | [x], hp, hc => by
    have : p = x := by simpa using hp
    subst this; exact hc
  | x :: y :: r, hp, hc => by
    show c ∈ sg (x ++ s ++ Str.join s (y :: r))
    rw [sg_app, sg_app, List.mem_append, List.mem_append]
    rcases List.mem_cons.mp hp with rfl | hp
    · exact .inl (.inl hc)
    · exact .inr (join_mem hp hc)
theorem mem_join {s : Str} {c : Nat} : ∀ {ts : List Str}, c ∈ sg (Str.join s ts) → c ∈ sg s ∨ ∃ p ∈ ts, c ∈ sg p
  | [], h => (List.not_mem_nil (show c ∈ ([] : List Nat) from h)).elim
  | [x], h => .inr ⟨x, List.mem_cons_self, h⟩
  | x :: y :: r, h => by
    have h' : c ∈ sg (x ++ s ++ Str.join s (y :: r)) := h
    rw [sg_app, sg_app, List.mem_append, List.mem_append] at h'
    rcases h' with (h | h) | h
    · exact .inr ⟨x, List.mem_cons_self, h⟩
    · exact .inl h
    · rcases mem_join h with h | ⟨p, hp, h⟩
      · exact .inl h
      · exact .inr ⟨p, List.mem_cons_of_mem _ hp, h⟩
theorem join_len (s : Str) : ∀ ts : List Str, (Str.join s ts).length ≤ (ts.map (·.length)).sum + ts.length * s.length ∧ (ts ≠ [] → (Str.join s ts).length + s.length = (ts.map (·.length)).sum + ts.length * s.length)
  | [] => ⟨Nat.zero_le _, fun h => absurd rfl h⟩
  | [x] => by
    have : (Str.join s [x]).length = x.length := rfl
    rw [this]; simp
  | x :: y :: r => by
    obtain ⟨_, h2⟩ := join_len s (y :: r)
    have h3 := h2 (by simp)
    have : (Str.join s (x :: y :: r)).length = x.length + s.length + (Str.join s (y :: r)).length := by
      show (x ++ s ++ Str.join s (y :: r)).length = _
      rw [Str.length_append, Str.length_append]
    have e : (List.map (fun z : Str => z.length) (x :: y :: r)).sum + (x :: y :: r).length * s.length = x.length + s.length + ((List.map (fun z : Str => z.length) (y :: r)).sum + (y :: r).length * s.length) := by
      rw [List.map_cons, List.sum_cons, List.length_cons, Nat.succ_mul]; omega
    rw [this]
    refine ⟨?_, fun _ => ?_⟩
    · rw [e]; omega
    · rw [e]; omega
theorem split_mem {c : Nat} {x p : Str} (h : p ∈ Txt.split x ⟨#[c]⟩) : ∀ b ∈ sg p, b ∈ sg x := fun b hb => by
  rw [← StrLaws.join_split x ⟨#[c]⟩]
  exact join_mem h hb
theorem split_ne {c : Nat} {x : Str} : Txt.split x ⟨#[c]⟩ ≠ [] := fun e => by
  have p := PyProof.Rows.split_pos x ⟨#[c]⟩
  rw [e] at p
  exact absurd p (by decide)
theorem split_sum {c : Nat} (x : Str) : ((Txt.split x ⟨#[c]⟩).map (·.length)).sum + (Txt.split x ⟨#[c]⟩).length = x.length + 1 := by
  have h := (join_len ⟨#[c]⟩ (Txt.split x ⟨#[c]⟩)).2 split_ne
  rw [StrLaws.join_split] at h
  have e : (⟨#[c]⟩ : Str).length = 1 := rfl
  rw [e] at h
  omega
theorem le_sum {p : Str} : ∀ {ts : List Str}, p ∈ ts → p.length ≤ (ts.map (·.length)).sum
  | x :: r, h => by
    rw [List.map_cons, List.sum_cons]
    rcases List.mem_cons.mp h with rfl | h
    · omega
    · have := le_sum h; omega
theorem split_len {c : Nat} {x p : Str} (h : p ∈ Txt.split x ⟨#[c]⟩) : p.length ≤ x.length := by
  have h1 := split_sum (c := c) x
  have h2 := le_sum h
  have h3 : 0 < (Txt.split x ⟨#[c]⟩).length := List.length_pos_of_mem h
  omega
theorem split_count {c : Nat} (x : Str) : (Txt.split x ⟨#[c]⟩).length ≤ x.length + 1 := by
  have h1 := split_sum (c := c) x
  omega
theorem Asc.split {c : Nat} {x p : Str} (a : Asc x) (h : p ∈ Txt.split x ⟨#[c]⟩) : Asc p := fun b hb => a b (split_mem h b hb)
def dig (c : Nat) : Bool := decide (48 ≤ c) && decide (c ≤ 57)
def isNum (x : Str) : Bool := decide (1 ≤ x.length) && decide (x.length ≤ 4) && (decide (x.cps[0]? ≠ some 48) || decide (x = ("0" : String))) && (sg x).all dig
theorem isNum_num {x : Str} (h : isNum x = true) : ∃ n, n < 10000 ∧ x = num n := by
  unfold isNum at h
  simp only [Bool.and_eq_true, Bool.or_eq_true, decide_eq_true_eq] at h
  obtain ⟨⟨⟨h1, h2⟩, h3⟩, h4⟩ := h
  rw [len_sg] at h1 h2
  have hz : x = ("0" : String) → sg x = [48] := fun e => by rw [e]; decide +kernel
  have h3' : (∀ r, sg x ≠ 48 :: r) ∨ sg x = [48] := by
    rcases h3 with h3 | h3
    · left
      intro r e
      apply h3
      rw [← Array.getElem?_toList, show x.cps.toList = 48 :: r from e]; rfl
    · exact .inr (hz h3)
  have key : ∃ n, n < 10000 ∧ sg x = figsOf n := by
    generalize sg x = l at h1 h2 h3' h4
    have d : ∀ c ∈ l, 48 ≤ c ∧ c ≤ 57 := fun c hc => by
      have := List.all_eq_true.mp h4 c hc
      unfold dig at this
      simpa using this
    match l, h1, h2, h3', d with
    | [a], _, _, _, d =>
      have ha := d a (by simp)
      refine ⟨a - 48, by omega, ?_⟩
      unfold figsOf
      rw [if_pos (by omega)]
      congr 1; omega
    | [a, b], _, _, h3, d =>
      have ha := d a (by simp)
      have hb := d b (by simp)
      have h0 : a ≠ 48 := fun e => by
        rcases h3 with h3 | h3
        · exact h3 [b] (by rw [e])
        · cases h3
      refine ⟨(a - 48) * 10 + (b - 48), by omega, ?_⟩
      unfold figsOf
      rw [if_neg (by omega), if_pos (by omega)]
      congr 1
      · omega
      · congr 1; omega
    | [a, b, c], _, _, h3, d =>
      have ha := d a (by simp)
      have hb := d b (by simp)
      have hc := d c (by simp)
      have h0 : a ≠ 48 := fun e => by
        rcases h3 with h3 | h3
        · exact h3 [b, c] (by rw [e])
        · cases h3
      refine ⟨(a - 48) * 100 + (b - 48) * 10 + (c - 48), by omega, ?_⟩
      unfold figsOf
      rw [if_neg (by omega), if_neg (by omega), if_pos (by omega)]
      congr 1
      · omega
      · congr 1
        · omega
        · congr 1; omega
    | [a, b, c, e], _, _, h3, d =>
      have ha := d a (by simp)
      have hb := d b (by simp)
      have hc := d c (by simp)
      have he := d e (by simp)
      have h0 : a ≠ 48 := fun z => by
        rcases h3 with h3 | h3
        · exact h3 [b, c, e] (by rw [z])
        · cases h3
      refine ⟨(a - 48) * 1000 + (b - 48) * 100 + (c - 48) * 10 + (e - 48), by omega, ?_⟩
      unfold figsOf
      rw [if_neg (by omega), if_neg (by omega), if_neg (by omega)]
      congr 1
      · omega
      · congr 1
        · omega
        · congr 1
          · omega
          · congr 1; omega
    | [], h1, _, _, _ => exact absurd h1 (by simp)
    | a :: b :: c :: e :: f :: r, _, h2, _, _ => exact absurd h2 (by simp)
  obtain ⟨n, hn, e⟩ := key
  exact ⟨n, hn, sg_inj (by rw [e, num_figs hn])⟩
open Classical in
/-- the number that a text writes -/
noncomputable def nOf (x : Str) : Nat := if h : ∃ n, n < 10000 ∧ x = num n then h.choose else 0
theorem nOf_ok {x : Str} (h : isNum x = true) : nOf x < 10000 ∧ x = num (nOf x) := by
  have e := isNum_num h
  unfold nOf
  rw [dif_pos e]
  exact e.choose_spec
theorem nOf_reads {x : Str} (h : isNum x = true) : PySem.intText? x = some (nOf x : Int) := by
  obtain ⟨h1, h2⟩ := nOf_ok h
  have := PySem.W.KIN.num_reads (n := (nOf x : Nat)) (by omega) (by omega)
  rw [show PySem.Str.ofString (toString ((nOf x : Nat) : Int)) = x from h2.symm] at this
  exact this
def wordsOf8 (t : Str) : List Str := Txt.split t sep
def halves8 (w : Str) : List Str := Txt.split w col
def fstH (w : Str) : Str := (halves8 w).getD 0 Str.empty
def sndH (w : Str) : Str := (halves8 w).getD 1 Str.empty
noncomputable def esOf (t : Str) : List Nat := ((wordsOf8 t).drop 1).map fun w => nOf (fstH w)
noncomputable def wsOf (t : Str) : List Nat := (wordsOf8 t).map fun w => nOf (sndH w)
structure Reads (t : Str) : Prop where
  two : ∀ w ∈ wordsOf8 t, (halves8 w).length = 2
  top : fstH ((wordsOf8 t).getD 0 Str.empty) = dash
  els : ∀ w ∈ (wordsOf8 t).drop 1, isNum (fstH w) = true
  wos : ∀ w ∈ wordsOf8 t, isNum (sndH w) = true
  good : Good (esOf t) (wsOf t)
theorem two_is {w : Str} (h : (halves8 w).length = 2) : halves8 w = [fstH w, sndH w] := by
  unfold fstH sndH
  match halves8 w, h with
  | [a, b], _ => rfl
end TX
set_option Elab.async false
set_option maxHeartbeats 4000000
namespace L2
open PySem PySem.Spec PyProof.Rows
theorem pi_enum {X : Cx} {es : List Expr} {kk : Nat} {tp : Pos} {a : Expr} {ta : TA} {p pos : Pos} (hm : X.mg "enumerate" = none) (ha : PA X [a] ta) (hg : Gl X "enumerate" := by rfl) (he : starEach [a] X.env = (false, eval a X.env) :: starEach [] X.env := by rfl)
    (hpl : (backTo pos (starEach [] X.env)).any (·.1) = false := by rfl) : PI X (.Tuple es kk tp) (.Call (.Name "enumerate" p) [a] [] pos) (iEnum X.K 0 ta) := by
  intro pins s σ H R I h
  refine wpAny_Call_Name_kw (ld_blt I hg hm boot_enumerate ?_)
  refine PyProof.Rows.callWith_type1 (thn (ha pos pins s σ H _ I h) fun us s1 ⟨vs, H1, I1, r, l, xs, e, hl, q⟩ => ?_) he hpl
  subst e
  obtain ⟨u, rfl, ru⟩ := vals1 r
  cases ru
  obtain ⟨z, its, n, r', hn, e⟩ := I1.lstM hl
  exact call_enumerate_list ⟨_, e, rfl, _, rfl⟩ fun g o1 o2 o3 o4 => enum_it I1 q o1 o2 o4
end L2
set_option Elab.async false
set_option maxHeartbeats 4000000
namespace L2
open PySem PySem.Spec PyProof.Rows
def txtsOf : List Expr → List Str
  | .Constant (.str x) _ _ :: r => x :: txtsOf r
  | _ => []
def allTxt : List Expr → Bool
  | [] => true
  | .Constant (.str _) _ _ :: r => allTxt r
  | _ => false
theorem pa_txts {X : Cx} : ∀ {es : List Expr}, allTxt es = true → PA X es (fun _ H Q => Q ((txtsOf es).map V.str) H)
  | [], _ => pa_nil
  | .Constant (.str x) j p :: r, h => by
    have ih := pa_txts (X := X) (es := r) h
    exact pa_cons (pe_str (X := X) (x := x) (j := j) (pos := p)) ih (by rw [starEach]; intro e p' z; cases z)
end L2
set_option Elab.async false
set_option maxHeartbeats 4000000
namespace FT
open PySem L2 TM
def nats (l : List Nat) : List V := l.map fun n : Nat => V.int (n : Int)
theorem nats_length (l : List Nat) : (nats l).length = l.length := List.length_map _
theorem nats_get {l : List Nat} {i : Nat} (h : i < l.length) : (nats l)[i]? = some (.int (l.getD i 0 : Nat)) := by
  unfold nats
  rw [List.getElem?_map, List.getElem?_eq_getElem h, List.getD_eq_getElem?_getD, List.getElem?_eq_getElem h]; rfl
theorem nats_ints (l : List Nat) : nats l = (l.map fun n : Nat => (n : Int)).map V.int := by unfold nats; rw [List.map_map]; rfl
theorem nats_app (l m : List Nat) : nats (l ++ m) = nats l ++ nats m := List.map_append ..
theorem nats_inj {l m : List Nat} (h : nats l = nats m) : l = m := by
  unfold nats at h
  exact List.map_inj_right (fun a b e => by have := V.int.inj e; omega) |>.mp h
theorem nats_at {l : List Nat} {i : Nat} (h : i < l.length) : atI (nats l) (i : Int) = some (.int (l.getD i 0 : Nat)) := atI_nat (nats_get h)
theorem same_new {H : Hp} {p : Addr} (h : H p = none) (o : HO) : Same H (upd H p o) := fun b u q => by rw [upd_ne (ne_of_none q h)]; exact q
theorem same_upd {H H' : Hp} {p : Addr} {o : HO} (s : Same H H') (h : H p = none) : Same H (upd H' p o) := fun b u q => by rw [upd_ne (ne_of_none q h)]; exact s b u q
theorem small {n : Nat} (h : n ≤ 1000) : n ≤ sizeLine := Nat.le_of_lt (small1000 h)
theorem bo_list : bootBuiltins "list" = some (.type "list") := by decide +kernel
theorem bo_tuple : bootBuiltins "tuple" = some (.type "tuple") := by decide +kernel
theorem bo_int : bootBuiltins "int" = some (.type "int") := by decide +kernel
theorem bo_min : bootBuiltins "min" = some (.builtin "min") := by decide +kernel
theorem bo_max : bootBuiltins "max" = some (.builtin "max") := by decide +kernel
theorem bo_isinstance : bootBuiltins "isinstance" = some (.builtin "isinstance") := by decide +kernel
structure Nm (mg : Str → Option Value) : Prop where
  len : mg "len" = none
  range : mg "range" = none
  min : mg "min" = none
  max : mg "max" = none
  list : mg "list" = none
  tuple : mg "tuple" = none
  sum : mg "sum" = none
  isinstance : mg "isinstance" = none
  int : mg "int" = none
  bool : mg "bool" = none
  enumerate : mg "enumerate" = none
/-- a Tree stands at x: its two tuples -/
def IsTree (C : Addr) (H : Hp) (x : Addr) (es ws : List Nat) : Prop :=
  ∃ dx p q, H x = some (.ins C dx (putF "worth_row" (.ref q) (putF "elder_row" (.ref p) []))) ∧ H p = some (.tup (nats es)) ∧ H q = some (.tup (nats ws))
theorem IsTree.same {C : Addr} {H H' : Hp} {x : Addr} {es ws : List Nat} (t : IsTree C H x es ws) (s : Same H H') : IsTree C H' x es ws := by
  obtain ⟨dx, p, q, a, b, c⟩ := t
  exact ⟨dx, p, q, s _ _ a, s _ _ b, s _ _ c⟩
theorem we : ¬ (("elder_row" : Str) = "worth_row") := by decide +kernel
theorem row_w (p q : V) : (putF "worth_row" q (putF "elder_row" p [])).lookup ("worth_row" : Str) = some q := by rw [lookup_putF, if_pos rfl]
theorem row_e (p q : V) : (putF "worth_row" q (putF "elder_row" p [])).lookup ("elder_row" : Str) = some p := by rw [lookup_putF, if_neg we, lookup_putF, if_pos rfl]
theorem row_no (p q : V) {m : Str} (h1 : ¬ m = "worth_row") (h2 : ¬ m = "elder_row") : (putF "worth_row" q (putF "elder_row" p [])).lookup m = none := by
  rw [lookup_putF, if_neg h1, lookup_putF, if_neg h2]; rfl
section
variable (K : PySem.W.Frag)
def spCell : Sp := fun vs H Q _ => ∃ (a : Addr) (ns : List Int) (k : Int), vs = [.ref a, .int k] ∧ SqL K H a (ns.map V.int) ∧ 0 ≤ k ∧ ∀ d : Int, Q (.int d) H
def spDraw : Sp := fun vs H Q _ => ∃ (a : Addr) (ns : List Int) (k : Int), vs = [.ref a, .int k] ∧ SqL K H a (ns.map V.int) ∧ 0 ≤ k ∧ k ≤ 1000 ∧ ∀ d : Int, 0 ≤ d → d < 2147483647 → Q (.int d) H
def spElders : Sp := fun vs H Q _ => ∃ (a : Addr) (ns : List Int) (n : Int), vs = [.ref a, .int n] ∧ SqL K H a (ns.map V.int) ∧ 1 ≤ n ∧ n ≤ 14 ∧
  ∀ (r : Addr) (es : List Nat) (H' : Hp), H r = none → Same H H' → H' r = some (.lst (nats es)) → (es.length : Int) + 1 = n → Eld es → Q (.ref r) H'
def spTree : Sp := fun vs H Q _ => ∃ (a : Addr) (ns : List Int) (m : Int), vs = [.ref a, .int m] ∧ SqL K H a (ns.map V.int) ∧ 1 ≤ m ∧ m ≤ 14 ∧
  ∀ (r e w : Addr) (es ws : List Nat) (H' : Hp), H r = none → H e = none → H w = none → e ≠ w → Same H H' → H' r = some (.tup [.ref e, .ref w]) → H' e = some (.lst (nats es)) → H' w = some (.lst (nats ws)) → Good es ws → (ws.length : Int) ≤ m → Q (.ref r) H'
def spGetE (C : Addr) : Sp := fun vs H Q _ => ∃ (x : Addr) (es ws : List Nat), vs = [.ref x] ∧ IsTree C H x es ws ∧ ∀ r, H r = none → Q (.ref r) (upd H r (.lst (nats es)))
def spGetW (C : Addr) : Sp := fun vs H Q _ => ∃ (x : Addr) (es ws : List Nat), vs = [.ref x] ∧ IsTree C H x es ws ∧ ∀ r, H r = none → Q (.ref r) (upd H r (.lst (nats ws)))
/-- law(script): for a list of at most 63 ints the answer is True -/
def spLaw : Sp := fun vs H Q _ => ∃ (a : Addr) (ns : List Int), vs = [.ref a] ∧ SqL K H a (ns.map V.int) ∧ ns.length ≤ 63 ∧ ∀ H', Q (.bl true) H'
end
end FT
set_option Elab.async false
set_option maxHeartbeats 4000000
set_option maxRecDepth 20000
namespace FT
open PySem L2 TM
def top (i : Nat) : Stmt := PySem.Challenge.pw_firetree_k08_texts_read.main.body.getD i (.Pass ⟨0, 0, 0, 0⟩)
abbrev s_cell : Stmt := (top 22)
abbrev s_draw : Stmt := (top 23)
abbrev s_elders : Stmt := (top 24)
abbrev s_tree : Stmt := (top 25)
section
variable {P : Program} {w : World} {K : PySem.W.Frag} {mg : Str → Option Value} {base : Heap} {f : Addr} {fd : FuncData}
theorem sc_cell : FnScope ["script", "k"] ["script", "k"] (defScope s_cell) := ⟨rfl, rfl, rfl, by decide +kernel, rfl, by decide +kernel, by decide +kernel⟩
theorem ok_cell (F : Fun K "_law_cell_at" "_law_cell_at" s_cell f fd) (N : Nm mg) : FnOk P w K mg base CX0 1 f fd ["script", "k"] (spCell K) := by
  refine F.ok sc_cell (fun vs H Q E h => ?_) (fun cdv A outer s H vs Q E hr h => ?_)
  · obtain ⟨a, ns, k, rfl, _⟩ := h
    rfl
  obtain ⟨a, ns, k, rfl, hS, h0, q⟩ := h
  have mn_len := N.len
  refine ⟨_, (pss_cons (ps_if (pt_cmpR op_lt (pv 1) (pe_callB call_len_seq (by rfl) mn_len PySem.boot_len (pa_cons (pv 0) pa_nil)) (nomark _)) (pss_one (ps_ret (pe_ix ix_list (pv 0) (pv 1) (fun _ _ => rfl)))) pss_nil)
    (pss_one (ps_ret pe_int))), ?_⟩
  have hl : (ns.map V.int).length = ns.length := List.length_map _
  refine ⟨_, rfl, _, rfl, a, _, rfl, .inl hS, _, _, rfl, rfl, _, rfl, ?_⟩
  refine ite2 (fun c => ?_) (fun c => ?_)
  · have c' : k < (((ns.map V.int).length : Nat) : Int) := of_decide_eq_true c
    rw [hl] at c'
    have hk : k.toNat < ns.length := by omega
    have ek : k = ((k.toNat : Nat) : Int) := by omega
    have hv : atI (ns.map V.int) ((k.toNat : Nat) : Int) = some (.int ns[k.toNat]) := atI_nat (by rw [List.getElem?_map, List.getElem?_eq_getElem hk] <;> rfl)
    rw [← ek] at hv
    exact ⟨_, rfl, _, rfl, a, _, _, _, rfl, rfl, hS, hv, q _⟩
  · exact q 0
theorem sc_draw : FnScope ["script", "k"] ["script", "k"] (defScope s_draw) := ⟨rfl, rfl, rfl, by decide +kernel, rfl, by decide +kernel, by decide +kernel⟩
theorem ok_draw (F : Fun K "_law_draw" "_law_draw" s_draw f fd) (D_law_cell_at : DefOk P w K mg base CX0 "_law_cell_at" 1 ["script", "k"] (spCell K)) : FnOk P w K mg base CX0 2 f fd ["script", "k"] (spDraw K) := by
  refine F.ok sc_draw (fun vs H Q E h => ?_) (fun cdv A outer s H vs Q E hr h => ?_)
  · obtain ⟨a, ns, k, rfl, _⟩ := h
    rfl
  obtain ⟨a, ns, k, rfl, hS, h0, h1, q⟩ := h
  refine ⟨_, (pss_one (ps_ret (pe_op op_mod (pe_op op_mul (pe_op op_add (pe_def D_law_cell_at hr pass0 (pa_cons (pv 0) (pa_cons (pe_op op_mod (pv 1) pe_int) pa_nil))) (pe_op op_mul pe_int (pv 1))) (pe_op op_add pe_int (pe_op op_mul pe_int (pv 1)))) pe_int))), ?_⟩
  refine ⟨_, rfl, _, rfl, _, _, rfl, rfl, (by show (0 : Int) < 61; decide), a, ns, k % 61, rfl, hS, Int.emod_nonneg _ (by decide), fun d => ?_⟩
  refine ⟨_, rfl, _, _, rfl, rfl, .inl ⟨by decide, by decide⟩, _, _, rfl, rfl, _, rfl, _, _, rfl, rfl, .inl ⟨by decide, by decide⟩, _, _, rfl, rfl, _, _, rfl, rfl, .inr ⟨by omega, by omega⟩, _, _, rfl, rfl, (by show (0 : Int) < 2147483647; decide), ?_⟩
  exact q _ (Int.emod_nonneg _ (by decide)) (Int.emod_lt_of_pos _ (by decide))
theorem sc_elders : FnScope ["script", "things", "elders", "way", "k", "cell"] ["script", "things"] (defScope s_elders) := ⟨rfl, rfl, rfl, by decide +kernel, rfl, by decide +kernel, by decide +kernel⟩
/-- each of the four ways gives an elder -/
theorem four_ways {way d : Int} {i : Nat} (w0 : 0 ≤ way) (w1 : way < 4) (d0 : 0 ≤ d) :
    ∃ m : Nat, m ≤ i ∧ atI [V.int (d % (0 + (i : Int) + 1)), .int (0 + (i : Int) - d % (0 + (i : Int) + 1) / 2), .int (d % (if 3 < 0 + (i : Int) + 1 then 3 else 0 + (i : Int) + 1)), .int ((0 + (i : Int) + d % 2) / 2)] way = some (.int (m : Nat)) := by
  have e0 : (0 : Int) + (i : Int) + 1 = (i : Int) + 1 := by omega
  have e1 : (0 : Int) + (i : Int) = (i : Int) := by omega
  have a1 : 0 ≤ d % ((i : Int) + 1) := Int.emod_nonneg _ (by omega)
  have a2 : d % ((i : Int) + 1) < (i : Int) + 1 := Int.emod_lt_of_pos _ (by omega)
  rw [e0, e1]
  have hw : way = 0 ∨ way = 1 ∨ way = 2 ∨ way = 3 := by omega
  rcases hw with rfl | rfl | rfl | rfl
  · refine ⟨(d % ((i : Int) + 1)).toNat, by omega, ?_⟩
    rw [Int.toNat_of_nonneg a1]; rfl
  · refine ⟨((i : Int) - d % ((i : Int) + 1) / 2).toNat, by omega, ?_⟩
    rw [Int.toNat_of_nonneg (by omega)]; rfl
  · by_cases c : (3 : Int) < (i : Int) + 1
    · have b1 : 0 ≤ d % 3 := Int.emod_nonneg _ (by decide)
      have b2 : d % 3 < 3 := Int.emod_lt_of_pos _ (by decide)
      refine ⟨(d % 3).toNat, by omega, ?_⟩
      rw [if_pos c, Int.toNat_of_nonneg b1]; rfl
    · refine ⟨(d % ((i : Int) + 1)).toNat, by omega, ?_⟩
      rw [if_neg c, Int.toNat_of_nonneg a1]; rfl
  · have b1 : 0 ≤ d % 2 := Int.emod_nonneg _ (by decide)
    have b2 : d % 2 < 2 := Int.emod_lt_of_pos _ (by decide)
    refine ⟨(((i : Int) + d % 2) / 2).toNat, by omega, ?_⟩
    rw [Int.toNat_of_nonneg (by omega)]; rfl
theorem eld_snoc {es : List Nat} {m : Nat} (h : Eld es) (hm : m ≤ es.length) : Eld (es ++ [m]) := fun k hk => by
  rw [List.length_append, List.length_singleton] at hk
  by_cases c : k < es.length
  · have := h k c
    rw [List.getD_eq_getElem?_getD, List.getElem?_append_left c, ← List.getD_eq_getElem?_getD]; exact this
  · have e : k = es.length := by omega
    subst e
    simp [hm]
theorem ok_elders (F : Fun K "_law_elders" "_law_elders" s_elders f fd) (N : Nm mg) (D_law_draw : DefOk P w K mg base CX0 "_law_draw" 2 ["script", "k"] (spDraw K)) : FnOk P w K mg base CX0 3 f fd ["script", "things"] (spElders K) := by
  refine F.ok sc_elders (fun vs H Q E h => ?_) (fun cdv A outer s H vs Q E hr h => ?_)
  · obtain ⟨a, ns, n, rfl, _⟩ := h
    rfl
  obtain ⟨a, ns, n, rfl, hS, h1, h14, q⟩ := h
  have mn_range := N.range
  have mn_min := N.min
  have hnd := sc_elders.nd
  have hpo := @PassesOwn.never
  refine ⟨_, (pss_cons (ps_set (i := 2) hnd rfl (by first | exact Or.inl rfl | exact Or.inr rfl) (pe_lst pa_nil))
    (pss_cons (ps_set (i := 3) hnd rfl (by first | exact Or.inl rfl | exact Or.inr rfl) (pe_op op_mod (pe_def D_law_draw hr pass0 (pa_cons (pv 0) (pa_cons pe_int pa_nil))) pe_int))
    (pss_cons (ps_for hpo rfl (pi_range1 (by rfl) mn_range (pa_cons (pe_op op_sub (pv 1) pe_int) pa_nil)) (pg_name (i := 4) hnd rfl (by first | exact Or.inl rfl | exact Or.inr rfl)) (pss_cons (ps_set (i := 5) hnd rfl (by first | exact Or.inl rfl | exact Or.inr rfl) (pe_def D_law_draw hr pass0 (pa_cons (pv 0) (pa_cons (pe_op op_add pe_int (pv 4)) pa_nil))))
      (pss_one (ps_expr (pe_bm PySem.F.plainAttrs_list PySem.F.slot_list_append PySem.F.type_list_append mt_append (pv 2) (pa_cons (pe_ix ix_list (pe_lst (pa_cons (pe_op op_mod (pv 5) (pe_op op_add (pv 4) pe_int)) (pa_cons (pe_op op_sub (pv 4) (pe_op op_fdiv (pe_op op_mod (pv 5) (pe_op op_add (pv 4) pe_int)) pe_int)) (pa_cons (pe_op op_mod (pv 5) (pe_callB (call_min2 rfl) (by rfl) mn_min bo_min (pa_cons (pe_op op_add (pv 4) pe_int) (pa_cons pe_int pa_nil)))) (pa_cons (pe_op op_fdiv (pe_op op_add (pv 4) (pe_op op_mod (pv 5) pe_int)) pe_int) pa_nil))))) (pv 3) (fun _ _ => rfl)) pa_nil))))))
    (pss_one (ps_ret (pv 2)))))), ?_⟩
  refine ⟨(by show 0 ≤ sizeLine; decide), fun r hr0 => ?_⟩
  have s1 : Same H (upd H r (.lst [])) := same_new hr0 _
  refine ⟨_, rfl, a, ns, 2, rfl, s1.seq hS, by decide, by decide, fun d d0 d1 => ⟨_, _, rfl, rfl, (by show (0 : Int) < 4; decide), ?_⟩⟩
  have w0 : 0 ≤ d % 4 := Int.emod_nonneg _ (by decide)
  have w1 : d % 4 < 4 := Int.emod_lt_of_pos _ (by decide)
  refine ⟨_, rfl, _, _, rfl, rfl, n - 1, rfl, by omega, by omega, for_range (n := (n - 1).toNat) (fun i σ H2 => ∃ (es : List Nat) (kv cv : Option V), σ = [some (.ref a), some (.int n), some (.ref r), some (.int (d % 4)), kv, cv] ∧ Same H H2 ∧ H2 r = some (.lst (nats es)) ∧ es.length = i ∧ Eld es)
    ⟨[], none, none, rfl, s1, upd_same, rfl, fun k hk => absurd hk (Nat.not_lt_zero _)⟩ ?_ ?_⟩
  · rintro i σ H2 hi ⟨es, kv, cv, rfl, s2, hl, he, hE⟩
    refine ⟨_, rfl, _, rfl, _, _, rfl, rfl, a, ns, 10 + (0 + (i : Int)), rfl, s2.seq hS, by omega, by omega, fun c c0 c1 => ?_⟩
    obtain ⟨m, hm, hv⟩ := four_ways (i := i) w0 w1 c0
    have p1 : (0 : Int) < 0 + (i : Int) + 1 := by omega
    have p3 : (0 : Int) < (if 3 < 0 + (i : Int) + 1 then 3 else 0 + (i : Int) + 1) := by split <;> omega
    refine ⟨_, rfl, .inl ⟨rfl, _, SqL.of hl⟩, ?_⟩
    refine ⟨_, rfl, _, rfl, _, _, rfl, rfl, _, _, rfl, rfl, p1, ?_⟩
    refine ⟨_, rfl, _, rfl, _, rfl, _, _, rfl, rfl, _, _, rfl, rfl, p1, _, _, rfl, rfl, ⟨by decide, by decide⟩, _, _, rfl, rfl, ?_⟩
    refine ⟨_, rfl, _, rfl, _, _, rfl, rfl, _, _, rfl, _, _, rfl, rfl, p3, ?_⟩
    refine ⟨_, rfl, _, rfl, _, _, rfl, rfl, (by show (0 : Int) < 2; decide), _, _, rfl, rfl, _, _, rfl, rfl, ⟨by decide, by decide⟩, ?_⟩
    refine ⟨(by show 4 ≤ sizeLine; decide), fun p hp => ?_⟩
    have s3 : ∀ o, Same H2 (upd H2 p o) := fun o => same_new hp o
    refine ⟨_, rfl, p, _, _, _, rfl, rfl, SqL.of upd_same, hv, ?_⟩
    refine ⟨r, _, _, rfl, rfl, s3 _ _ _ hl, small1000 (by rw [nats_length]; omega), ?_⟩
    refine ⟨es ++ [m], _, _, rfl, same_upd (s2.trans (s3 _)) hr0, ?_, by rw [List.length_append, he]; rfl, eld_snoc hE (by omega)⟩
    rw [upd_same, nats_app]; rfl
  · rintro σ H2 ⟨es, kv, cv, rfl, s2, hl, he, hE⟩
    exact ⟨_, rfl, q r es H2 hr0 s2 hl (by omega) hE⟩
theorem sc_tree : FnScope ["script", "most", "things", "top"] ["script", "most"] (defScope s_tree) := ⟨rfl, rfl, rfl, by decide +kernel, rfl, by decide +kernel, by decide +kernel⟩
theorem three_tops {k : Int} (k0 : 0 ≤ k) (k1 : k < 3) : ∃ t : Int, 0 < t ∧ t ≤ 1001 ∧ atI [V.int 10, .int 2, .int 1001] k = some (.int t) := by
  have hk : k = 0 ∨ k = 1 ∨ k = 2 := by omega
  rcases hk with rfl | rfl | rfl
  · exact ⟨10, by decide, by decide, rfl⟩
  · exact ⟨2, by decide, by decide, rfl⟩
  · exact ⟨1001, by decide, by decide, rfl⟩
theorem ok_tree (F : Fun K "_law_tree" "_law_tree" s_tree f fd) (N : Nm mg) (D_law_draw : DefOk P w K mg base CX0 "_law_draw" 2 ["script", "k"] (spDraw K)) (D_law_elders : DefOk P w K mg base CX0 "_law_elders" 3 ["script", "things"] (spElders K)) :
    FnOk P w K mg base CX0 4 f fd ["script", "most"] (spTree K) := by
  refine F.ok sc_tree (fun vs H Q E h => ?_) (fun cdv A outer s H vs Q E hr h => ?_)
  · obtain ⟨a, ns, n, rfl, _⟩ := h
    rfl
  obtain ⟨a, ns, m, rfl, hS, h1, h14, q⟩ := h
  have mn_range := N.range
  have hnd := sc_tree.nd
  refine ⟨_, (pss_cons (ps_set (i := 2) hnd rfl (by first | exact Or.inl rfl | exact Or.inr rfl) (pe_op op_add pe_int (pe_op op_mod (pe_def D_law_draw hr pass0 (pa_cons (pv 0) (pa_cons pe_int pa_nil))) (pv 1))))
    (pss_cons (ps_set (i := 3) hnd rfl (by first | exact Or.inl rfl | exact Or.inr rfl) (pe_ix ix_list (pe_lst (pa_cons pe_int (pa_cons pe_int (pa_cons pe_int pa_nil)))) (pe_op op_mod (pe_def D_law_draw hr pass0 (pa_cons (pv 0) (pa_cons pe_int pa_nil))) pe_int) (fun _ _ => rfl)))
    (pss_one (ps_ret (pe_tup (pa_cons (pe_def D_law_elders hr pass0 (pa_cons (pv 0) (pa_cons (pv 2) pa_nil))) (pa_cons (pe_lcB rfl hnd (pi_range1 (by rfl) mn_range (pa_cons (pv 2) pa_nil)) (fun cl C s0 H0 fp pn => pts_nil) (fun cl C s0 H0 fp pn => (pe_op op_mod (pe_def D_law_draw hr pass0 (pa_cons (pv 1) (pa_cons (pe_op op_add pe_int (pv 0)) pa_nil))) (pv 4))) (by kernel_rfl)) pa_nil))))))), ?_⟩
  refine ⟨_, rfl, a, ns, 1, rfl, hS, by decide, by decide, fun d d0 d1 => ⟨_, rfl, _, _, rfl, rfl, (by show (0 : Int) < m; omega), _, _, rfl, rfl, ?_⟩⟩
  have t0 : 0 ≤ d % m := Int.emod_nonneg _ (by omega)
  have t1 : d % m < m := Int.emod_lt_of_pos _ (by omega)
  refine ⟨(by show 3 ≤ sizeLine; decide), fun p hp => ?_⟩
  have s1 : Same H (upd H p (.lst [.int 10, .int 2, .int 1001])) := same_new hp _
  refine ⟨_, rfl, a, ns, 3, rfl, s1.seq hS, by decide, by decide, fun c c0 c1 => ?_⟩
  obtain ⟨tp, tp0, tp1, htp⟩ := three_tops (Int.emod_nonneg c (by decide : (3 : Int) ≠ 0)) (Int.emod_lt_of_pos c (by decide : (0 : Int) < 3))
  refine ⟨_, _, rfl, rfl, (by show (0 : Int) < 3; decide), p, _, _, _, rfl, rfl, SqL.of upd_same, htp, ?_⟩
  refine ⟨_, rfl, _, rfl, a, ns, 1 + d % m, rfl, s1.seq hS, by omega, by omega, fun e es H2 he s2 hl hn hE => ?_⟩
  refine ⟨_, rfl, 1 + d % m, rfl, by omega, by omega, ?_⟩
  refine lc_rangeY (n := (1 + d % m).toNat) (fun i ys H3 => ∃ ws : List Nat, ys = nats ws ∧ ws.length = i ∧ (∀ v ∈ ws, v ≤ 1000) ∧ H3 = H2) ⟨[], rfl, rfl, (fun v hv => nomatch hv), rfl⟩ (by omega)
    (fun i ys H3 ⟨ws, e1, e2, _⟩ => by rw [e1, nats_length, e2]; exact Nat.le_refl _) ?_ ?_
  · rintro i ys H3 hi ⟨ws, rfl, e2, e3, rfl⟩
    refine ⟨_, rfl, _, rfl, _, _, rfl, rfl, a, ns, 30 + (0 + (i : Int)), rfl, s2.seq (s1.seq hS), by omega, by omega, fun g g0 g1 => ⟨_, rfl, _, _, rfl, rfl, tp0, ?_⟩⟩
    have u0 : 0 ≤ g % tp := Int.emod_nonneg _ (by omega)
    have u1 : g % tp < tp := Int.emod_lt_of_pos _ tp0
    refine ⟨ws ++ [(g % tp).toNat], ?_, by rw [List.length_append, e2]; rfl, fun v hv => ?_, rfl⟩
    · rw [nats_app]
      show _ = nats ws ++ [V.int ((g % tp).toNat : Nat)]
      rw [Int.toNat_of_nonneg u0]
    · rcases List.mem_append.mp hv with hv | hv
      · exact e3 v hv
      · have : v = (g % tp).toNat := by simpa using hv
        omega
  · rintro ys H3 ⟨ws, rfl, e2, e3, rfl⟩ r hr0
    refine ⟨(by show 2 ≤ sizeLine; decide), fun t ht => ?_⟩
    have s3 : Same H3 (upd H3 r (.lst (nats ws))) := same_new hr0 _
    have s4 : Same (upd H3 r (.lst (nats ws))) (upd (upd H3 r (.lst (nats ws))) t (.tup [.ref e, .ref r])) := same_new ht _
    have s12 : Same H H3 := s1.trans s2
    refine q t e r es ws _ (s12.free (s3.free ht)) (s1.free he) (s12.free hr0) (ne_of_none hl hr0) ((s12.trans s3).trans s4) upd_same (s4 _ _ (s3 _ _ hl)) (s4 _ _ upd_same) ⟨by omega, by omega, hE, e3⟩ (by omega)
end
end FT
set_option Elab.async false
set_option maxHeartbeats 4000000
set_option maxRecDepth 20000
namespace FT
open PySem L2 TM
abbrev s_lengths : Stmt := (top 10)
abbrev s_chkE : Stmt := (top 11)
abbrev s_chkW : Stmt := (top 12)
abbrev s_init : Stmt := (inClass (top 13) 0)
abbrev s_getE : Stmt := (inClass (top 13) 1)
abbrev s_getW : Stmt := (inClass (top 13) 2)
/-- what the walk asks of the class Tree, and of the two numbers at the top -/
structure Txt (K : PySem.W.Frag) (mg : Str → Option Value) (C : Addr) : Prop where
  cl : Cls K C
  nE : NoAttr K C "elder_row"
  nW : NoAttr K C "worth_row"
  th : ∃ tk, mg "MOST_THINGS" = some (.int 14 tk)
  wo : ∃ tk, mg "MOST_WORTH" = some (.int 1000 tk)
/-- and of an error's class -/
structure Exc (K : PySem.W.Frag) (mg : Str → Option Value) (x : Str) (C : Addr) : Prop where
  nm : mg x = some (.ref C)
  rs : PySem.W.excIn K C bmVE "ValueError.__new__" = true
  cl : XCls K C
def izs (l : List Int) : List V := l.map V.int
theorem izs_length (l : List Int) : (izs l).length = l.length := List.length_map _
theorem izs_get {l : List Int} {i : Nat} (h : i < l.length) : (izs l)[i]? = some (.int (l.getD i 0)) := by
  unfold izs
  rw [List.getElem?_map, List.getElem?_eq_getElem h, List.getD_eq_getElem?_getD, List.getElem?_eq_getElem h]; rfl
theorem izs_nats (l : List Nat) : izs (l.map fun n : Nat => (n : Int)) = nats l := by rw [nats_ints]; rfl
def LenOk (es ws : List Int) : Prop := 1 ≤ ws.length ∧ ws.length ≤ 14 ∧ es.length + 1 = ws.length
def EldI (es : List Int) : Prop := ∀ i, i < es.length → 0 ≤ es.getD i 0 ∧ es.getD i 0 ≤ (i : Nat)
def WorI (ws : List Int) : Prop := ∀ i, i < ws.length → 0 ≤ ws.getD i 0 ∧ ws.getD i 0 ≤ 1000
def AllOk (es ws : List Int) : Prop := LenOk es ws ∧ EldI es ∧ WorI ws
theorem nat_list : ∀ {l : List Int}, (∀ i, i < l.length → 0 ≤ l.getD i 0) → ∃ m : List Nat, l = m.map fun n : Nat => (n : Int)
  | [], _ => ⟨[], rfl⟩
  | a :: l, h => by
    obtain ⟨m, e⟩ := nat_list (l := l) fun i hi => by have := h (i + 1) (by rw [List.length_cons]; omega); simpa using this
    have h0 : 0 ≤ a := by have := h 0 (by rw [List.length_cons]; omega); simpa using this
    exact ⟨a.toNat :: m, by rw [List.map_cons, ← e, Int.toNat_of_nonneg h0]⟩
theorem getD_map (m : List Nat) (i : Nat) : (m.map fun n : Nat => (n : Int)).getD i 0 = (m.getD i 0 : Nat) := by
  rw [List.getD_eq_getElem?_getD, List.getD_eq_getElem?_getD, List.getElem?_map]
  cases m[i]? <;> rfl
theorem AllOk.good {es ws : List Int} (h : AllOk es ws) : ∃ es' ws' : List Nat, es = (es'.map fun n : Nat => (n : Int)) ∧ ws = (ws'.map fun n : Nat => (n : Int)) ∧ Good es' ws' := by
  obtain ⟨⟨l1, l2, l3⟩, e, w⟩ := h
  obtain ⟨m, rfl⟩ := nat_list fun i hi => (e i hi).1
  obtain ⟨n, rfl⟩ := nat_list fun i hi => (w i hi).1
  rw [List.length_map] at l1 l2 l3
  rw [List.length_map] at l3
  refine ⟨m, n, rfl, rfl, l3, l2, fun k hk => ?_, fun v hv => ?_⟩
  · have := (e k (by rw [List.length_map]; exact hk)).2
    rw [getD_map] at this
    omega
  · obtain ⟨i, hi, rfl⟩ := List.getElem_of_mem hv
    have := (w i (by rw [List.length_map]; exact hi)).2
    rw [getD_map, List.getD_eq_getElem?_getD, List.getElem?_eq_getElem hi] at this
    have z : ((n[i] : Nat) : Int) ≤ 1000 := this
    omega
theorem good_ok {es ws : List Nat} (G : Good es ws) : AllOk (es.map fun n : Nat => (n : Int)) (ws.map fun n : Nat => (n : Int)) := by
  have l := G.len
  have m := G.most
  refine ⟨⟨by rw [List.length_map]; omega, by rw [List.length_map]; omega, by rw [List.length_map, List.length_map]; omega⟩, fun i hi => ?_, fun i hi => ?_⟩
  · rw [List.length_map] at hi
    rw [getD_map]
    have := G.lt i hi
    omega
  · rw [List.length_map] at hi
    rw [getD_map]
    have := G.wo (ws.getD i 0) (by rw [List.getD_eq_getElem?_getD, List.getElem?_eq_getElem hi]; exact List.getElem_mem hi)
    omega
section
variable (K : PySem.W.Frag) (C CB CN : Addr)
def spLenX : Sp := fun vs H Q E => ∃ (a b : Addr) (es ws : List Int), vs = [.ref a, .ref b] ∧ SqL K H a (izs es) ∧ SqL K H b (izs ws) ∧ (LenOk es ws → Q .non H) ∧ (¬ LenOk es ws → E (.ref CB) none H)
def spChkEX : Sp := fun vs H Q E => ∃ (a : Addr) (es : List Int), vs = [.ref a] ∧ H a = some (.lst (izs es)) ∧ (EldI es → ∀ H', Same H H' → Q .non H') ∧ (¬ EldI es → ∀ H', Same H H' → E (.ref CB) none H')
def spChkWX : Sp := fun vs H Q E => ∃ (a : Addr) (ws : List Int), vs = [.ref a] ∧ SqL K H a (izs ws) ∧ (WorI ws → Q .non H) ∧ (¬ WorI ws → E (.ref CB) none H)
def spInitX : Sp := fun vs H Q E => ∃ (x dx a b : Addr) (es ws : List Int), vs = [.ref x, .ref a, .ref b] ∧ H x = some (.ins C dx []) ∧ H a = some (.lst (izs es)) ∧ H b = some (.lst (izs ws)) ∧
  (∀ (es' ws' : List Nat), izs es = nats es' → izs ws = nats ws' → Good es' ws' → ∀ H', (∀ c o, c ≠ x → H c = some o → H' c = some o) → IsTree C H' x es' ws' → Q .non H') ∧ (¬ AllOk es ws → ∀ H', Same H H' → E (.ref CB) none H')
end
section
variable {P : Program} {w : World} {K : PySem.W.Frag} {mg : Str → Option Value} {base : Heap} {f C CB CN : Addr} {fd : FuncData}
theorem sc_lengths : FnScope ["elders", "worths"] ["elders", "worths"] (defScope s_lengths) := ⟨rfl, rfl, rfl, by decide +kernel, rfl, by decide +kernel, by decide +kernel⟩
theorem ok_lengths (F : Fun K "check_lengths" "check_lengths" s_lengths f fd) (N : Nm mg) (T : Txt K mg C) (B : Exc K mg "BadTree" CB) : FnOk P w K mg base (CX1 P w) 1 f fd ["elders", "worths"] (spLenX K CB) := by
  refine F.okX sc_lengths (fun vs H Q E h => ?_) (fun cdv A outer s H vs Q E hr h => ?_)
  · obtain ⟨a, b, es, ws, rfl, _⟩ := h
    rfl
  obtain ⟨a, b, es, ws, rfl, ha, hb, q, z⟩ := h
  have mn_len := N.len
  have hm_BadTree := B.nm
  have hq_BadTree := B.rs
  obtain ⟨tk, hm_MOST_THINGS⟩ := T.th
  refine ⟨_, (pss_cons (ps_if (PW.pt (pw_or (pt_cmpR op_lt (pe_callB call_len_seq (by rfl) mn_len PySem.boot_len (pa_cons (pv 1) pa_nil)) pe_int (nomark _)) (pw_or1 (pt_cmpR op_gt (pe_callB call_len_seq (by rfl) mn_len PySem.boot_len (pa_cons (pv 1) pa_nil)) (pe_const hm_MOST_THINGS) (nomark _))))) (pss_one (ps_raise hm_BadTree hq_BadTree hr.hd (pa_cons (pe_join (pj_cons pe_str (pj_cons (pe_fmt (pe_const hm_MOST_THINGS)) (pj_cons pe_str pj_nil)))) pa_nil))) pss_nil)
    (pss_one (ps_if (pt_cmpR op_ne (pe_callB call_len_seq (by rfl) mn_len PySem.boot_len (pa_cons (pv 0) pa_nil)) (pe_op op_sub (pe_callB call_len_seq (by rfl) mn_len PySem.boot_len (pa_cons (pv 1) pa_nil)) pe_int) (nomark _)) (pss_one (ps_raise hm_BadTree hq_BadTree hr.hd (pa_cons pe_str pa_nil))) pss_nil))), ?_⟩
  have one : (1 : Nat) ≤ sizeLine := by decide
  refine ⟨_, rfl, b, _, rfl, .inl hb, _, _, rfl, rfl, _, rfl, ite2 (fun c => ?_) (fun c1 => ?_)⟩
  · have c' : (((izs ws).length : Nat) : Int) < 1 := of_decide_eq_true c
    rw [izs_length] at c'
    refine iteT ⟨_, rfl, by decide, _, rfl, by decide, _, rfl, by decide, _, rfl, by decide, by decide, one, z fun l => ?_⟩
    have := l.1
    omega
  have c1' : ¬ (((izs ws).length : Nat) : Int) < 1 := of_decide_eq_false (Bool.eq_false_iff.mpr c1)
  rw [izs_length] at c1'
  refine ⟨_, rfl, b, _, rfl, .inl hb, _, _, rfl, rfl, _, rfl, ite2 (fun c => ?_) (fun c2 => ?_)⟩
  · have c' : (14 : Int) < (((izs ws).length : Nat) : Int) := of_decide_eq_true c
    rw [izs_length] at c'
    refine ⟨_, rfl, by decide, _, rfl, by decide, _, rfl, by decide, _, rfl, by decide, by decide, one, z fun l => ?_⟩
    have := l.2.1
    omega
  have c2' : ¬ (14 : Int) < (((izs ws).length : Nat) : Int) := of_decide_eq_false (Bool.eq_false_iff.mpr c2)
  rw [izs_length] at c2'
  refine ⟨_, rfl, a, _, rfl, .inl ha, _, rfl, b, _, rfl, .inl hb, _, _, rfl, rfl, rfl, _, rfl, ite2 (fun c => ?_) (fun c3 => ?_)⟩
  · have c' : ¬ V.int (((izs es).length : Nat) : Int) = V.int ((((izs ws).length : Nat) : Int) - 1) := by simpa using c
    rw [izs_length, izs_length] at c'
    refine ⟨one, z fun l => c' ?_⟩
    have := l.2.2
    exact congrArg V.int (by omega)
  · have c' : V.int (((izs es).length : Nat) : Int) = V.int ((((izs ws).length : Nat) : Int) - 1) := by simpa using c3
    rw [izs_length, izs_length] at c'
    have e := V.int.inj c'
    exact q ⟨by omega, by omega, by omega⟩
theorem sc_chkE : FnScope ["elders", "thing", "elder"] ["elders"] (defScope s_chkE) := ⟨rfl, rfl, rfl, by decide +kernel, rfl, by decide +kernel, by decide +kernel⟩
theorem ok_chkE (F : Fun K "check_elders" "check_elders" s_chkE f fd) (N : Nm mg) (B : Exc K mg "BadTree" CB) : FnOk P w K mg base (CX1 P w) 1 f fd ["elders"] (spChkEX CB) := by
  refine F.okX sc_chkE (fun vs H Q E h => ?_) (fun cdv A outer s H vs Q E hr h => ?_)
  · obtain ⟨a, es, rfl, _⟩ := h
    rfl
  obtain ⟨a, es, rfl, ha, q, z⟩ := h
  have mn_enumerate := N.enumerate
  have hm_BadTree := B.nm
  have hq_BadTree := B.rs
  have hnd := sc_chkE.nd
  have hpo := @PassesOwn.leaving
  refine ⟨_, (pss_one (ps_for hpo rfl (pi_enumS mn_enumerate (pa_cons (pv 0) pa_nil)) (pg_tup rfl (pgs_cons (pg_name (i := 1) hnd rfl (by first | exact Or.inl rfl | exact Or.inr rfl)) (pgs_cons (pg_name (i := 2) hnd rfl (by first | exact Or.inl rfl | exact Or.inr rfl)) pgs_nil))) (pss_one (ps_if (PW.pt (pw_or (pt_cmpR op_lt (pv 2) pe_int (nomark _)) (pw_or1 (pt_cmpR op_ge (pv 2) (pv 1) (nomark _))))) (pss_one (ps_raise hm_BadTree hq_BadTree hr.hd (pa_cons pe_str pa_nil))) pss_nil)))), ?_⟩
  have one : (1 : Nat) ≤ sizeLine := by decide
  refine ⟨_, rfl, a, _, rfl, ha, for_enum (xs := izs es) (fun i σ H2 => ∃ u v, σ = [some (.ref a), u, v] ∧ Same H H2 ∧ ∀ j, j < i → j < es.length → 0 ≤ es.getD j 0 ∧ es.getD j 0 ≤ (j : Nat)) ⟨none, none, rfl, Same.refl H, fun j h => absurd h (Nat.not_lt_zero j)⟩ (fun i σ H2 _ ⟨_, _, _, s2, _⟩ => SqL.of (s2 _ _ ha)) ?_ ?_⟩
  · rintro i x σ H2 p hx ⟨u, v, rfl, s2, hb⟩ hp
    have hi : i < es.length := by
      have := (List.getElem?_eq_some_iff.mp hx).1
      rwa [izs_length] at this
    rw [izs_get hi] at hx
    have e4 := Option.some.inj hx
    subst e4
    have s3 := s2.trans (same_new hp (.tup [.int (1 + (i : Nat)), .int (es.getD i 0)]))
    refine ⟨p, _, rfl, SqT.of upd_same, rfl, _, _, rfl, _, _, rfl, rfl, ?_⟩
    refine ⟨_, rfl, _, _, rfl, rfl, _, rfl, ite2 (fun c => ?_) (fun c1 => ?_)⟩
    · have c' : es.getD i 0 < 0 := of_decide_eq_true c
      refine iteT ⟨one, z (fun l => ?_) _ s3⟩
      have := (l i hi).1
      omega
    have c1' : ¬ es.getD i 0 < 0 := of_decide_eq_false (Bool.eq_false_iff.mpr c1)
    refine ⟨_, rfl, _, rfl, _, _, rfl, rfl, _, rfl, ite2 (fun c => ?_) (fun c2 => ?_)⟩
    · have c' : (1 : Int) + (i : Nat) ≤ es.getD i 0 := of_decide_eq_true c
      refine ⟨one, z (fun l => ?_) _ s3⟩
      have := (l i hi).2
      omega
    have c2' : ¬ (1 : Int) + (i : Nat) ≤ es.getD i 0 := of_decide_eq_false (Bool.eq_false_iff.mpr c2)
    refine ⟨_, _, rfl, s3, fun j hj hl => ?_⟩
    rcases Nat.lt_succ_iff_lt_or_eq.mp hj with hj | rfl
    · exact hb j hj hl
    · omega
  · rintro σ H2 ⟨u, v, rfl, s2, hb⟩
    rw [izs_length] at hb
    exact q (fun i hi => hb i hi hi) H2 s2
theorem sc_chkW : FnScope ["worths", "worth"] ["worths"] (defScope s_chkW) := ⟨rfl, rfl, rfl, by decide +kernel, rfl, by decide +kernel, by decide +kernel⟩
theorem ok_chkW (F : Fun K "check_worths" "check_worths" s_chkW f fd) (T : Txt K mg C) (B : Exc K mg "BadTree" CB) : FnOk P w K mg base (CX1 P w) 1 f fd ["worths"] (spChkWX K CB) := by
  refine F.okX sc_chkW (fun vs H Q E h => ?_) (fun cdv A outer s H vs Q E hr h => ?_)
  · obtain ⟨a, ws, rfl, _⟩ := h
    rfl
  obtain ⟨a, ws, rfl, ha, q, z⟩ := h
  have hm_BadTree := B.nm
  have hq_BadTree := B.rs
  have hnd := sc_chkW.nd
  have hpo := @PassesOwn.leaving
  obtain ⟨tk, hm_MOST_WORTH⟩ := T.wo
  refine ⟨_, (pss_one (ps_for hpo rfl (pi_list (pv 0)) (pg_name (i := 1) hnd rfl (by first | exact Or.inl rfl | exact Or.inr rfl)) (pss_one (ps_if (PW.pt (pw_or (pt_cmpR op_lt (pv 1) pe_int (nomark _)) (pw_or1 (pt_cmpR op_gt (pv 1) (pe_const hm_MOST_WORTH) (nomark _))))) (pss_one (ps_raise hm_BadTree hq_BadTree hr.hd (pa_cons (pe_join (pj_cons pe_str (pj_cons (pe_fmt (pe_const hm_MOST_WORTH)) pj_nil))) pa_nil))) pss_nil)))), ?_⟩
  have one : (1 : Nat) ≤ sizeLine := by decide
  refine ⟨_, rfl, a, rfl, ⟨_, ha⟩, for_list (xs := izs ws) (fun i σ H2 => ∃ u, σ = [some (.ref a), u] ∧ H2 = H ∧ ∀ j, j < i → j < ws.length → 0 ≤ ws.getD j 0 ∧ ws.getD j 0 ≤ 1000) ⟨none, rfl, rfl, fun j h => absurd h (Nat.not_lt_zero j)⟩ (fun i σ H2 _ ⟨_, _, e, _⟩ => by rw [e]; exact ha) ?_ ?_⟩
  · rintro i x σ H2 hx ⟨u, rfl, rfl, hb⟩
    have hi : i < ws.length := by
      have := (List.getElem?_eq_some_iff.mp hx).1
      rwa [izs_length] at this
    rw [izs_get hi] at hx
    have e4 := Option.some.inj hx
    subst e4
    refine ⟨_, rfl, _, _, rfl, rfl, _, rfl, ite2 (fun c => ?_) (fun c1 => ?_)⟩
    · have c' : ws.getD i 0 < 0 := of_decide_eq_true c
      refine iteT ⟨_, rfl, by decide, _, rfl, by decide, _, rfl, by decide, by decide, one, z fun l => ?_⟩
      have := (l i hi).1
      omega
    have c1' : ¬ ws.getD i 0 < 0 := of_decide_eq_false (Bool.eq_false_iff.mpr c1)
    refine ⟨_, rfl, _, _, rfl, rfl, _, rfl, ite2 (fun c => ?_) (fun c2 => ?_)⟩
    · have c' : (1000 : Int) < ws.getD i 0 := of_decide_eq_true c
      refine ⟨_, rfl, by decide, _, rfl, by decide, _, rfl, by decide, by decide, one, z fun l => ?_⟩
      have := (l i hi).2
      omega
    have c2' : ¬ (1000 : Int) < ws.getD i 0 := of_decide_eq_false (Bool.eq_false_iff.mpr c2)
    refine ⟨_, rfl, rfl, fun j hj hl => ?_⟩
    rcases Nat.lt_succ_iff_lt_or_eq.mp hj with hj | rfl
    · exact hb j hj hl
    · omega
  · rintro σ H2 ⟨u, rfl, rfl, hb⟩
    rw [izs_length] at hb
    exact q fun i hi => hb i hi hi
theorem sc_init : FnScope ["self", "elders", "worths"] ["self", "elders", "worths"] (defScope s_init) := ⟨rfl, rfl, rfl, by decide +kernel, rfl, by decide +kernel, by decide +kernel⟩
theorem ok_init (F : Fun K "__init__" "Tree.__init__" s_init f fd) (N : Nm mg) (T : Txt K mg C) (Dcheck_lengths : DefOk P w K mg base (CX1 P w) "check_lengths" 1 ["elders", "worths"] (spLenX K CB))
    (Dcheck_elders : DefOk P w K mg base (CX1 P w) "check_elders" 1 ["elders"] (spChkEX CB)) (Dcheck_worths : DefOk P w K mg base (CX1 P w) "check_worths" 1 ["worths"] (spChkWX K CB)) : FnOk P w K mg base (CX1 P w) 2 f fd ["self", "elders", "worths"] (spInitX C CB) := by
  refine F.okX sc_init (fun vs H Q E h => ?_) (fun cdv A outer s H vs Q E hr h => ?_)
  · obtain ⟨x, dx, a, b, es, ws, rfl, _⟩ := h
    rfl
  obtain ⟨x, dx, a, b, es, ws, rfl, hx, ha, hb, q, z⟩ := h
  have mn_tuple := N.tuple
  refine ⟨_, (pss_cons (ps_expr (pe_def Dcheck_lengths hr passX (pa_cons (pv 1) (pa_cons (pv 2) pa_nil))))
    (pss_cons (ps_expr (pe_def Dcheck_elders hr passX (pa_cons (pv 1) pa_nil)))
    (pss_cons (ps_expr (pe_def Dcheck_worths hr passX (pa_cons (pv 2) pa_nil)))
    (pss_cons (ps_fld (pv 0) (pe_callTy call_tuple_of (by rfl) mn_tuple bo_tuple (pa_cons (pv 1) pa_nil)) rfl)
    (pss_one (ps_fld (pv 0) (pe_callTy call_tuple_of (by rfl) mn_tuple bo_tuple (pa_cons (pv 2) pa_nil)) rfl)))))), ?_⟩
  refine ⟨_, rfl, _, rfl, a, b, es, ws, rfl, SqL.of ha, SqL.of hb, fun h1 => ?_, fun n => z (fun o => n o.1) H (Same.refl H)⟩
  refine ⟨_, rfl, a, es, rfl, ha, fun h2 H2 s2 => ?_, fun n H2 s2 => z (fun o => n o.2.1) H2 s2⟩
  refine ⟨_, rfl, b, ws, rfl, SqL.of (s2 _ _ hb), fun h3 => ?_, fun n => z (fun o => n o.2.2) H2 s2⟩
  obtain ⟨es', ws', rfl, rfl, G⟩ := AllOk.good ⟨h1, h2, h3⟩
  have q := q es' ws' (izs_nats es') (izs_nats ws') G
  rw [izs_nats] at ha hb
  have hx2 := s2 _ _ hx
  refine ⟨_, rfl, a, _, rfl, .inl ⟨SqL.of (s2 _ _ ha), fun p hp => ?_⟩⟩
  have s3 := same_new hp (.tup (nats es'))
  refine ⟨_, rfl, x, C, dx, _, rfl, s3 _ _ hx2, T.cl, T.nE, (by show 0 < 1000; decide), ?_⟩
  have nxa : a ≠ x := ne_of (s2 _ _ ha) hx2 (by intro z; cases z)
  have nxb : b ≠ x := ne_of (s2 _ _ hb) hx2 (by intro z; cases z)
  have nxp : p ≠ x := (ne_of_none hx2 hp).symm
  refine ⟨_, rfl, b, _, rfl, .inl ⟨SqL.of (by rw [upd_ne nxb]; exact s3 _ _ (s2 _ _ hb)), fun r hr0 => ?_⟩⟩
  have nrx : x ≠ r := fun e => by rw [← e, upd_same] at hr0; cases hr0
  have nrp : p ≠ r := fun e => by rw [← e, upd_ne nxp, upd_same] at hr0; cases hr0
  refine ⟨_, rfl, x, C, dx, _, rfl, (by rw [upd_ne nrx, upd_same]), T.cl, T.nW, (by show 1 < 1000; decide), ?_⟩
  refine q _ (fun c o hc e => ?_) ⟨dx, p, r, upd_same, ?_, ?_⟩
  · have e2 := s2 _ _ e
    have cp : c ≠ p := ne_of_none e2 hp
    have cr : c ≠ r := fun z => by rw [← z, upd_ne hc, upd_ne cp, e2] at hr0; cases hr0
    rw [upd_ne hc, upd_ne cr, upd_ne hc, upd_ne cp]
    exact e2
  · rw [upd_ne nxp, upd_ne nrp, upd_ne nxp, upd_same]
  · rw [upd_ne nrx.symm, upd_same]
theorem sc_getE : FnScope ["self"] ["self"] (defScope s_getE) := ⟨rfl, rfl, rfl, by decide +kernel, rfl, by decide +kernel, by decide +kernel⟩
theorem ok_getE (F : Fun K "elders" "Tree.elders" s_getE f fd) (N : Nm mg) (T : Txt K mg C) : FnOk P w K mg base CX0 1 f fd ["self"] (spGetE C) := by
  refine F.ok sc_getE (fun vs H Q E h => ?_) (fun cdv A outer s H vs Q E hr h => ?_)
  · obtain ⟨x, es, ws, rfl, _⟩ := h
    rfl
  obtain ⟨x, es, ws, rfl, ⟨dx, p, r, hx, hp, hr0⟩, q⟩ := h
  have mn_list := N.list
  refine ⟨_, (pss_one (ps_ret (pe_callTy call_list_of (by rfl) mn_list bo_list (pa_cons (pe_fld (pv 0) rfl) pa_nil)))), ?_⟩
  exact ⟨_, rfl, x, C, dx, _, _, rfl, hx, T.cl, T.nE, row_e _ _, p, _, rfl, .inr (SqT.of hp), q⟩
theorem sc_getW : FnScope ["self"] ["self"] (defScope s_getW) := ⟨rfl, rfl, rfl, by decide +kernel, rfl, by decide +kernel, by decide +kernel⟩
theorem ok_getW (F : Fun K "worths" "Tree.worths" s_getW f fd) (N : Nm mg) (T : Txt K mg C) : FnOk P w K mg base CX0 1 f fd ["self"] (spGetW C) := by
  refine F.ok sc_getW (fun vs H Q E h => ?_) (fun cdv A outer s H vs Q E hr h => ?_)
  · obtain ⟨x, es, ws, rfl, _⟩ := h
    rfl
  obtain ⟨x, es, ws, rfl, ⟨dx, p, r, hx, hp, hr0⟩, q⟩ := h
  have mn_list := N.list
  refine ⟨_, (pss_one (ps_ret (pe_callTy call_list_of (by rfl) mn_list bo_list (pa_cons (pe_fld (pv 0) rfl) pa_nil)))), ?_⟩
  exact ⟨_, rfl, x, C, dx, _, _, rfl, hx, T.cl, T.nW, row_w _ _, r, _, rfl, .inr (SqT.of hr0), q⟩
end
end FT
set_option Elab.async false
set_option maxHeartbeats 4000000
set_option maxRecDepth 20000
namespace FT
open PySem L2 TM TX
abbrev s_isnum : Stmt := (top 17)
abbrev s_numof : Stmt := (top 18)
abbrev s_halves : Stmt := (top 19)
abbrev s_read : Stmt := (top 20)
theorem bo_str : bootBuiltins "str" = some (.type "str") := by decide +kernel
theorem bo_all : bootBuiltins "all" = some (.builtin "all") := by decide +kernel
structure Nm8 (mg : Str → Option Value) : Prop where
  str : mg "str" = none
  all : mg "all" = none
  fig : ∃ tk, mg "FIGURES" = some (.str "0123456789" tk)
  most : ∃ tk, mg "MOST_FIGURES" = some (.int 4 tk)
section
variable (C CT : Addr)
def spIsNum : Sp := fun vs H Q _ => ∃ x, vs = [.str x] ∧ Asc x ∧ x.length ≤ 1000 ∧ ∀ H', Same H H' → Q (.bl (isNum x)) H'
def spNumOf : Sp := fun vs H Q E => ∃ x, vs = [.str x] ∧ Asc x ∧ x.length ≤ 1000 ∧ (isNum x = true → ∀ H', Same H H' → Q (.int (nOf x : Nat)) H') ∧ (isNum x = false → ∀ H', Same H H' → E (.ref CT) none H')
def spHalves : Sp := fun vs H Q E => ∃ x, vs = [.str x] ∧ x.length ≤ 900 ∧ ((halves8 x).length = 2 → ∀ (r : Addr) (H' : Hp), Same H H' → H' r = some (.lst [.str (fstH x), .str (sndH x)]) → Q (.ref r) H') ∧ ((halves8 x).length ≠ 2 → ∀ H', Same H H' → E (.ref CT) none H')
def spRead : Sp := fun vs H Q E => ∃ t, vs = [.str t] ∧ Asc t ∧ t.length ≤ 900 ∧ (Reads t → ∀ (x : Addr) (H' : Hp), Same H H' → IsTree C H' x (esOf t) (wsOf t) → Q (.ref x) H') ∧ (¬ Reads t → ∀ c H', Same H H' → E (.ref CT) c H')
end
theorem fig_all : (List.range 128).all (fun c => (!(Builtin.Str.occurrences figs ⟨#[c]⟩ 0 figs.length 1).isEmpty) == dig c) = true := by decide +kernel
theorem fig_dig {c : Nat} (h : c < 128) : (!(Builtin.Str.occurrences (Str.ofString "0123456789") ⟨#[c]⟩ 0 (Str.ofString "0123456789").length 1).isEmpty) = dig c := by
  exact eq_of_beq (List.all_eq_true.mp fig_all c (List.mem_range.mpr h))
theorem take_map_succ {α : Type} (g : Nat → α) {l : List Nat} {i : Nat} (h : i < l.length) : (l.take (i + 1)).map g = (l.take i).map g ++ [g (l.getD i 0)] := by
  rw [List.take_add_one, List.getElem?_eq_getElem h, List.map_append, List.getD_eq_getElem?_getD, List.getElem?_eq_getElem h]; rfl
section
variable {P : Program} {w : World} {K : PySem.W.Frag} {mg : Str → Option Value} {base : Heap} {f C CB CT : Addr} {fd : FuncData}
theorem sc_isnum : FnScope ["part"] ["part"] (defScope s_isnum) := ⟨rfl, rfl, rfl, by decide +kernel, rfl, by decide +kernel, by decide +kernel⟩
theorem ok_isnum (F : Fun K "is_number" "is_number" s_isnum f fd) (N : Nm mg) (N8 : Nm8 mg) : FnOk P w K mg base CX0 1 f fd ["part"] spIsNum := by
  refine F.ok sc_isnum (fun vs H Q E h => ?_) (fun cdv A outer s H vs Q E hr h => ?_)
  · obtain ⟨x, rfl, _⟩ := h
    rfl
  obtain ⟨x, rfl, ha, hn, q⟩ := h
  have hnd := sc_isnum.nd
  have mn_len := N.len
  have mn_all := N8.all
  obtain ⟨tk1, hm_FIGURES⟩ := N8.fig
  obtain ⟨tk2, hm_MOST_FIGURES⟩ := N8.most
  refine ⟨_, (pss_cons (ps_if (PW.pt (pw_or (pt_cmpR op_eq (pv 0) pe_str (nomark _)) (pw_or1 (pt_cmpR op_gt (pe_callB call_len_str (by rfl) mn_len PySem.boot_len (pa_cons (pv 0) pa_nil)) (pe_const hm_MOST_FIGURES) (nomark _))))) (pss_one (ps_ret pe_bl)) pss_nil)
    (pss_cons (ps_if (PW.pt (pw_and (pt_cmpR op_eq (pe_ix ix_str (pv 0) pe_int (fun _ _ => rfl)) pe_str (nomark _)) (pw_and1 (pt_cmpR op_ne (pv 0) pe_str (nomark _))))) (pss_one (ps_ret pe_bl)) pss_nil)
    (pss_one (ps_ret (pe_callB (call_allB rfl) (by rfl) mn_all bo_all (pa_cons (pe_lcB rfl hnd (pi_str (pv 0)) (fun cl C s0 H0 fp pn => pts_nil) (fun cl C s0 H0 fp pn => (pe_cmpR op_in_str (pv 0) (pe_constS hm_FIGURES) (by rfl))) (by kernel_rfl)) pa_nil)))))), ?_⟩
  have sl : x.length ≤ sizeLine := small (by omega)
  have q0 : isNum x = false → Q (.bl false) H := fun e => by have := q H (Same.refl H); rwa [e] at this
  refine ⟨_, rfl, rfl, _, rfl, ite2 (fun c => ?_) (fun c0 => ?_)⟩
  · have c' : V.str x = V.str (Str.ofString "") := of_decide_eq_true c
    refine iteT (q0 ?_)
    rw [V.str.inj c']; decide +kernel
  have l1 : 1 ≤ x.length := by
    have c' : ¬ V.str x = V.str (Str.ofString "") := of_decide_eq_false (Bool.eq_false_iff.mpr c0)
    rcases Nat.eq_zero_or_pos x.length with h | h
    · refine absurd (congrArg V.str ?_) c'
      refine sg_inj ?_
      rw [len_sg] at h
      rw [List.eq_nil_of_length_eq_zero h]; decide +kernel
    · exact h
  refine ⟨_, rfl, _, rfl, sl, _, _, rfl, rfl, _, rfl, ite2 (fun c => ?_) (fun c4 => ?_)⟩
  · have c' : (4 : Int) < ((x.length : Nat) : Int) := of_decide_eq_true c
    refine q0 ?_
    unfold isNum
    rw [decide_eq_false (show ¬ x.length ≤ 4 by omega), Bool.and_false, Bool.false_and, Bool.false_and]
  have l4 : x.length ≤ 4 := by
    have c' : ¬ (4 : Int) < ((x.length : Nat) : Int) := of_decide_eq_false (Bool.eq_false_iff.mpr c4)
    omega
  have h0 : 0 < x.cps.size := l1
  have hix : atI x.cps.toList ((0 : Nat) : Int) = some x.cps[0] := atI_nat (by rw [Array.getElem?_toList, Array.getElem?_eq_getElem h0])
  have get0 : x.cps[0]? = some x.cps[0] := Array.getElem?_eq_getElem h0
  have e48 : (Str.ofString "0").cps[0]? = some 48 := by decide +kernel
  refine ⟨_, rfl, _, _, _, rfl, rfl, sl, hix, rfl, _, rfl, ite2 (fun c => ?a) (fun c => iteF ?b)⟩
  case' a =>
    have c' : V.str ⟨#[x.cps[0]]⟩ = V.str (Str.ofString "0") := of_decide_eq_true c
    have hc : x.cps[0] = 48 := by
      have z := congrArg (fun s : Str => s.cps[0]?) (V.str.inj c')
      have z1 : (some x.cps[0] : Option Nat) = (Str.ofString "0").cps[0]? := z
      rw [e48] at z1
      exact Option.some.inj z1
    refine ⟨_, rfl, rfl, _, rfl, ite2 (fun c2 => ?_) (fun c2 => ?_)⟩
    · have n0 : ¬ x = Str.ofString "0" := fun z => by rw [z] at c2; revert c2; decide +kernel
      refine q0 ?_
      unfold isNum
      rw [get0, hc, decide_eq_false (show ¬ x = ("0" : String) from n0), decide_eq_false (show ¬ (some 48 ≠ some 48) from fun z => z rfl), Bool.or_false, Bool.and_false, Bool.false_and]
    have hlead : x.cps[0]? ≠ some 48 ∨ x = ("0" : String) := .inr (V.str.inj (by simpa using c2))
  case' b =>
    have hlead : x.cps[0]? ≠ some 48 ∨ x = ("0" : String) := .inl fun z => by
      rw [get0] at z
      have z' := Option.some.inj z
      have c' : ¬ V.str ⟨#[x.cps[0]]⟩ = V.str (Str.ofString "0") := of_decide_eq_false (Bool.eq_false_iff.mpr c)
      rw [z'] at c'
      exact c' (by decide +kernel)
  all_goals
    refine ⟨_, rfl, _, rfl, ha.all, ?_⟩
    refine lc_strY (fun i ys H3 => H3 = H ∧ ys = (((sg x).take i).map dig).map V.bl) ⟨rfl, rfl⟩ (by omega) (fun i ys H3 ⟨_, e⟩ => by rw [e, List.length_map, List.length_map, List.length_take]; omega) ?_ ?_
    · rintro i c ys H3 hc ⟨rfl, rfl⟩
      have hi : (sg x)[i]? = some c := by rw [← hc, ← Array.getElem?_toList]
      have hm : c < 128 := ha c (List.mem_of_getElem? hi)
      refine ⟨_, rfl, _, _, rfl, rfl, rfl, ?_⟩
      rw [fig_dig hm, List.take_add_one, hi, List.map_append, List.map_append]; rfl
    · rintro ys H3 ⟨rfl, rfl⟩ g ng
      refine ⟨g, _, rfl, SqL.of upd_same, ?_⟩
      have e : (((sg x).take x.length).map dig).all id = isNum x := by
        rw [len_sg, List.take_length]
        unfold isNum
        rw [decide_eq_true l1, decide_eq_true l4]
        have : (decide (x.cps[0]? ≠ some 48) || decide (x = ("0" : String))) = true := by
          rcases hlead with h | h
          · rw [decide_eq_true h, Bool.true_or]
          · rw [decide_eq_true h, Bool.or_true]
        rw [this, List.all_map]; rfl
      rw [e]
      exact q _ (same_new ng _)
theorem sc_numof : FnScope ["part"] ["part"] (defScope s_numof) := ⟨rfl, rfl, rfl, by decide +kernel, rfl, by decide +kernel, by decide +kernel⟩
theorem ok_numof (F : Fun K "number_of" "number_of" s_numof f fd) (N : Nm mg) (X : Exc K mg "NoText" CT) (Dis_number : DefOk P w K mg base (CX1 P w) "is_number" 1 ["part"] spIsNum) : FnOk P w K mg base (CX1 P w) 2 f fd ["part"] (spNumOf CT) := by
  refine F.okX sc_numof (fun vs H Q E h => ?_) (fun cdv A outer s H vs Q E hr h => ?_)
  · obtain ⟨x, rfl, _⟩ := h
    rfl
  obtain ⟨x, rfl, ha, hn, q, z⟩ := h
  have mn_int := N.int
  have hm_NoText := X.nm
  have hq_NoText := X.rs
  refine ⟨_, (pss_cons (ps_if (pt_not (pt_val (pe_def Dis_number hr passX (pa_cons (pv 0) pa_nil)))) (pss_one (ps_raise hm_NoText hq_NoText hr.hd (pa_cons pe_str pa_nil))) pss_nil)
    (pss_one (ps_ret (pe_callTy call_intS (by rfl) mn_int bo_int (pa_cons (pv 0) pa_nil))))), ?_⟩
  have one : (1 : Nat) ≤ sizeLine := by decide
  refine ⟨_, rfl, x, rfl, ha, hn, fun H2 s2 => ⟨_, rfl, ite2 (fun c => ?_) (fun c => ?_)⟩⟩
  · have c' : isNum x = false := by simpa using c
    exact ⟨one, z c' H2 s2⟩
  · have c' : isNum x = true := by simpa using c
    have l4 : x.length ≤ 4 := by
      unfold isNum at c'
      simp only [Bool.and_eq_true, decide_eq_true_eq] at c'
      exact c'.1.1.2
    exact ⟨_, rfl, _, _, rfl, nOf_reads c', (by omega), q c' H2 s2⟩
theorem sc_halves : FnScope ["part", "halves"] ["part"] (defScope s_halves) := ⟨rfl, rfl, rfl, by decide +kernel, rfl, by decide +kernel, by decide +kernel⟩
theorem ok_halves (F : Fun K "halves_of" "halves_of" s_halves f fd) (N : Nm mg) (X : Exc K mg "NoText" CT) : FnOk P w K mg base (CX1 P w) 1 f fd ["part"] (spHalves CT) := by
  refine F.okX sc_halves (fun vs H Q E h => ?_) (fun cdv A outer s H vs Q E hr h => ?_)
  · obtain ⟨x, rfl, _⟩ := h
    rfl
  obtain ⟨x, rfl, hn, q, z⟩ := h
  have hnd := sc_halves.nd
  have mn_len := N.len
  have hm_NoText := X.nm
  have hq_NoText := X.rs
  refine ⟨_, (pss_cons (ps_set (i := 1) hnd rfl (by first | exact Or.inl rfl | exact Or.inr rfl) (pe_bm PySem.F.plainAttrs_str PySem.F.slot_str_split PySem.F.type_str_split mt_split (pv 0) (pa_cons pe_str pa_nil)))
    (pss_cons (ps_if (pt_cmpR op_ne (pe_callB call_len_seq (by rfl) mn_len PySem.boot_len (pa_cons (pv 1) pa_nil)) pe_int (nomark _)) (pss_one (ps_raise hm_NoText hq_NoText hr.hd (pa_cons pe_str pa_nil))) pss_nil)
    (pss_one (ps_ret (pv 1))))), ?_⟩
  have one : (1 : Nat) ≤ sizeLine := by decide
  refine ⟨_, rfl, rfl, _, _, rfl, rfl, by decide +kernel, small (by omega), fun p np => ?_⟩
  have k1 : upd H p (.lst ((Txt.split x (Str.ofString ":")).map V.str)) p = some (.lst ((halves8 x).map V.str)) := upd_same
  have s1 := same_new np (.lst ((Txt.split x (Str.ofString ":")).map V.str))
  generalize upd H p (.lst ((Txt.split x (Str.ofString ":")).map V.str)) = H1 at k1 s1 ⊢
  refine ⟨_, rfl, p, _, rfl, .inl (SqL.of k1), rfl, _, rfl, ite2 (fun c => ?_) (fun c => ?_)⟩
  · have c' : (halves8 x).length ≠ 2 := fun e => by
      rw [List.length_map, e] at c
      revert c; decide
    exact ⟨one, z c' H1 s1⟩
  · have c' : (halves8 x).length = 2 := by
      rw [List.length_map] at c
      have c2 : V.int (((halves8 x).length : Nat) : Int) = V.int 2 := by simpa using c
      have := V.int.inj c2
      omega
    rw [two_is c'] at k1
    exact ⟨_, rfl, q c' p H1 s1 k1⟩
theorem sc_read : FnScope ["text", "pairs", "elders", "worths"] ["text"] (defScope s_read) := ⟨rfl, rfl, rfl, by decide +kernel, rfl, by decide +kernel, by decide +kernel⟩
theorem drop_cut (l : List V) : cutV l (some 1) none = l.drop 1 := by
  unfold cutV
  rw [show HT.sIx l.length 0 (some 1) = min 1 l.length from HT.sIx_nat _ _ 1, HT.sIx_none]
  cases l with
  | nil => rfl
  | cons a r =>
    rw [show min 1 (a :: r).length = 1 by rw [List.length_cons]; omega]
    exact List.take_of_length_le (by rw [List.length_drop]; exact Nat.le_refl _)
theorem ok_read (F : Fun K "read" "read" s_read f fd) (N : Nm mg) (X : Exc K mg "NoText" CT) (B : Exc K mg "BadTree" CB) (XB : PySem.W.exmOne K (.ref CB) (.ref CB) = some true) (Dhalves_of : DefOk P w K mg base (CX1 P w) "halves_of" 1 ["part"] (spHalves CT)) (Dnumber_of : DefOk P w K mg base (CX1 P w) "number_of" 2 ["part"] (spNumOf CT)) (DTree : ClsOk P w K mg base (CX1 P w) "Tree" C 2 ["self", "elders", "worths"] (spInitX C CB)) : FnOk P w K mg base (CX1 P w) 4 f fd ["text"] (spRead C CT) := by
  refine F.okX sc_read (fun vs H Q E h => ?_) (fun cdv A outer s H vs Q E hr h => ?_)
  · obtain ⟨t, rfl, _⟩ := h
    rfl
  obtain ⟨t, rfl, ha, hn, q, z⟩ := h
  have hnd := sc_read.nd
  have hm_NoText := X.nm
  have hq_NoText := X.rs
  have hm_BadTree := B.nm
  let EE : XK := fun cls cx H' => cls = .ref CB ∧ cx = none ∧ Same H H' ∧ ¬ Good (esOf t) (wsOf t)
  refine ⟨_, (pss_cons (ps_setLCX ["text", "pairs", "elders", "worths"] (i := 1) outsX rfl hnd rfl rfl (pi_list (pe_bm PySem.F.plainAttrs_str PySem.F.slot_str_split PySem.F.type_str_split mt_split (pv 0) (pa_cons pe_str pa_nil))) (fun cl C s0 H0 fp pn xe => pts_nil) (fun cl C s0 H0 fp pn xe hxB => (pe_def Dhalves_of hr hxB (pa_cons (pv 0) pa_nil))) (by kernel_rfl))
    (pss_cons (ps_if (pt_cmpR op_ne (pe_ix ix_list (pe_ix ix_list (pv 1) pe_int (fun _ _ => rfl)) pe_int (fun _ _ => rfl)) pe_str (nomark _)) (pss_one (ps_raise hm_NoText hq_NoText hr.hd (pa_cons pe_str pa_nil))) pss_nil)
    (pss_cons (ps_setLCX ["text", "pairs", "elders", "worths"] (i := 2) outsX rfl hnd rfl rfl (pi_list (pe_slice sl_list (pv 1) (po_some pe_int) po_none)) (fun cl C s0 H0 fp pn xe => pts_nil) (fun cl C s0 H0 fp pn xe hxB => (pe_def Dnumber_of hr hxB (pa_cons (pe_ix (ix_listK (K := K)) (pv 0) pe_int (fun _ _ => rfl)) pa_nil))) (by kernel_rfl))
    (pss_cons (ps_setLCX ["text", "pairs", "elders", "worths"] (i := 3) outsX rfl hnd rfl rfl (pi_list (pv 1)) (fun cl C s0 H0 fp pn xe => pts_nil) (fun cl C s0 H0 fp pn xe hxB => (pe_def Dnumber_of hr hxB (pa_cons (pe_ix (ix_listK (K := K)) (pv 0) pe_int (fun _ _ => rfl)) pa_nil))) (by kernel_rfl))
    (pss_one (ps_tryR (EE := EE) hm_BadTree hm_NoText hq_NoText (fun pn E1 hpo hxt => (pss_one (ps_ret (pe_cls DTree hr hxt (pa_cons (pv 2) (pa_cons (pv 3) pa_nil)))))) (fun ea => (pa_cons pe_str pa_nil)))))))), ?_⟩
  have one : (1 : Nat) ≤ sizeLine := by decide
  refine ⟨_, rfl, rfl, _, _, rfl, rfl, by decide +kernel, small (by omega), fun p np => ?_⟩
  have k1 : upd H p (.lst ((Txt.split t (Str.ofString " ")).map V.str)) p = some (.lst ((wordsOf8 t).map V.str)) := upd_same
  have s1 := same_new np (.lst ((Txt.split t (Str.ofString " ")).map V.str))
  generalize upd H p (.lst ((Txt.split t (Str.ofString " ")).map V.str)) = H1 at k1 s1 ⊢
  refine ⟨p, rfl, ⟨_, SqL.of k1⟩, ?_⟩
  have hsep : sep = ⟨#[32]⟩ := sep_is
  have hcol : col = ⟨#[58]⟩ := col_is
  have cnt : (wordsOf8 t).length ≤ t.length + 1 := by unfold wordsOf8; rw [hsep]; exact split_count t
  have hpos : 0 < (wordsOf8 t).length := List.length_pos_iff.mpr (by unfold wordsOf8; rw [hsep]; exact split_ne)
  have lenW : ∀ x ∈ wordsOf8 t, x.length ≤ t.length := fun x hx => by unfold wordsOf8 at hx; rw [hsep] at hx; exact split_len hx
  have ascW : ∀ x ∈ wordsOf8 t, Asc x := fun x hx => by unfold wordsOf8 at hx; rw [hsep] at hx; exact ha.split hx
  have inH : ∀ x, (halves8 x).length = 2 → fstH x ∈ halves8 x ∧ sndH x ∈ halves8 x := fun x e => by rw [two_is e]; simp
  have lenH : ∀ x ∈ wordsOf8 t, ∀ y ∈ halves8 x, y.length ≤ 1000 ∧ Asc y := fun x hx y hy => by
    unfold halves8 at hy
    rw [hcol] at hy
    have := split_len hy
    have := lenW x hx
    exact ⟨by omega, (ascW x hx).split hy⟩
  have lw : ((wordsOf8 t).map V.str).length = (wordsOf8 t).length := List.length_map _
  refine lc_listY (xs := (wordsOf8 t).map V.str) (fun i ys H3 => Same H1 H3 ∧ (∀ x ∈ (wordsOf8 t).take i, (halves8 x).length = 2) ∧ ∃ ls : List Addr, ys = ls.map V.ref ∧ ls.length = i ∧ ∀ (j : Nat) l, ls[j]? = some l → H3 l = some (.lst [.str (fstH ((wordsOf8 t).getD j Str.empty)), .str (sndH ((wordsOf8 t).getD j Str.empty))])) ⟨Same.refl _, (fun x hx => by simp at hx), [], rfl, rfl, fun j l e => by simp at e⟩ (by omega)
    (fun i ys H3 ⟨_, _, ls, e, e2, _⟩ => by rw [e, List.length_map, e2]; exact Nat.le_refl _) (fun i ys H3 _ ⟨s3, _⟩ => SqL.of (s3 _ _ k1)) ?_ ?_
  · rintro i y ys H3 hy ⟨s3, h2, ls, rfl, hls, hcont⟩
    have hi : i < (wordsOf8 t).length := by
      have := (List.getElem?_eq_some_iff.mp hy).1
      omega
    have gx : (wordsOf8 t)[i]? = some ((wordsOf8 t).getD i Str.empty) := by rw [List.getD_eq_getElem?_getD, List.getElem?_eq_getElem hi]; rfl
    have ey : y = .str ((wordsOf8 t).getD i Str.empty) := by
      rw [List.getElem?_map, gx] at hy
      exact (Option.some.inj hy).symm
    subst ey
    have mx : (wordsOf8 t).getD i Str.empty ∈ wordsOf8 t := List.mem_of_getElem? gx
    refine ⟨_, rfl, _, rfl, (by have := lenW _ mx; omega), fun e2 r H4 s4 kr => ⟨s3.trans s4, fun x hx => ?_, ls ++ [r], by rw [List.map_append]; rfl, by rw [List.length_append, hls]; rfl, fun j l e => ?_⟩, fun e2 H4 s4 => z (fun R => e2 (R.two _ mx)) none H4 (s1.trans (s3.trans s4))⟩
    · rw [List.take_add_one, gx, List.mem_append] at hx
      rcases hx with hx | hx
      · exact h2 x hx
      · have : x = (wordsOf8 t).getD i Str.empty := by simpa using hx
        rw [this]; exact e2
    · by_cases hj : j < ls.length
      · rw [List.getElem?_append_left hj] at e
        exact s4 _ _ (hcont j l e)
      · have hj2 : j = i := by
          have := (List.getElem?_eq_some_iff.mp e).1
          rw [List.length_append] at this
          have : j < ls.length + 1 := this
          omega
        subst hj2
        rw [List.getElem?_append_right (by omega), hls, Nat.sub_self] at e
        cases e
        exact kr
  rintro ys H3 ⟨s3, h2, ls, rfl, hls, hcont⟩ pa npa
  rw [lw] at hls h2
  rw [List.take_length] at h2
  have s4 := same_new npa (.lst (ls.map V.ref))
  have k4 := upd_same (H := H3) (a := pa) (o := .lst (ls.map V.ref))
  generalize upd H3 pa (.lst (ls.map V.ref)) = H4 at s4 k4 ⊢
  have s14 : Same H H4 := s1.trans (s3.trans s4)
  have hc4 : ∀ (j : Nat) l, ls[j]? = some l → H4 l = some (.lst [.str (fstH ((wordsOf8 t).getD j Str.empty)), .str (sndH ((wordsOf8 t).getD j Str.empty))]) := fun j l e => s4 _ _ (hcont j l e)
  obtain ⟨l0, e0⟩ : ∃ l, ls[0]? = some l := ⟨_, List.getElem?_eq_getElem (by omega)⟩
  refine ⟨_, rfl, pa, _, _, _, rfl, rfl, SqL.of k4, (show atI (ls.map V.ref) ((0 : Nat) : Int) = some (.ref l0) from atI_nat (by rw [List.getElem?_map, e0]; rfl)), l0, _, _, _, rfl, rfl, SqL.of (hc4 0 l0 e0), (show atI [V.str (fstH ((wordsOf8 t).getD 0 Str.empty)), .str (sndH ((wordsOf8 t).getD 0 Str.empty))] ((0 : Nat) : Int) = some (.str (fstH ((wordsOf8 t).getD 0 Str.empty))) from atI_nat rfl), rfl, _, rfl, ite2 (fun c => ?_) (fun c => ?_)⟩
  · refine ⟨one, z (fun R => ?_) none H4 s14⟩
    rw [R.top] at c
    revert c; decide +kernel
  have htop : fstH ((wordsOf8 t).getD 0 Str.empty) = dash := V.str.inj (show V.str _ = V.str (Str.ofString "-") by simpa using c)
  refine ⟨_, rfl, 1, rfl, pa, _, rfl, SqL.of k4, fun c nc => ?_⟩
  rw [drop_cut, ← List.map_drop]
  have s5 := same_new nc (.lst ((ls.drop 1).map V.ref))
  have k5 := upd_same (H := H4) (a := c) (o := .lst ((ls.drop 1).map V.ref))
  generalize upd H4 c (.lst ((ls.drop 1).map V.ref)) = H5 at s5 k5 ⊢
  have ld : ((ls.drop 1).map V.ref).length = (wordsOf8 t).length - 1 := by rw [List.length_map, List.length_drop]; omega
  have s15 := s14.trans s5
  refine ⟨c, rfl, ⟨_, SqL.of k5⟩, ?_⟩
  have le : (esOf t).length = (wordsOf8 t).length - 1 := by unfold esOf; rw [List.length_map, List.length_drop]
  have lv : (wsOf t).length = (wordsOf8 t).length := by unfold wsOf; rw [List.length_map]
  have gW : ∀ i, i < (wordsOf8 t).length → (wordsOf8 t)[i]? = some ((wordsOf8 t).getD i Str.empty) := fun i hi => by rw [List.getD_eq_getElem?_getD, List.getElem?_eq_getElem hi]; rfl
  have getE : ∀ i, i < (esOf t).length → (esOf t).getD i 0 = nOf (fstH ((wordsOf8 t).getD (1 + i) Str.empty)) := fun i hi => by
    unfold esOf
    rw [List.getD_eq_getElem?_getD, List.getElem?_map, List.getElem?_drop, gW (1 + i) (by omega)]; rfl
  have getW : ∀ i, i < (wsOf t).length → (wsOf t).getD i 0 = nOf (sndH ((wordsOf8 t).getD i Str.empty)) := fun i hi => by
    unfold wsOf
    rw [List.getD_eq_getElem?_getD, List.getElem?_map, gW i (by omega)]; rfl
  refine lc_listY (xs := (ls.drop 1).map V.ref) (fun i ys H6 => Same H5 H6 ∧ (∀ x ∈ ((wordsOf8 t).drop 1).take i, isNum (fstH x) = true) ∧ ys = nats ((esOf t).take i)) ⟨Same.refl _, (fun x hx => by simp at hx), rfl⟩ (by omega) (fun i ys H6 ⟨_, _, e⟩ => by rw [e, nats_length, List.length_take]; omega) (fun i ys H6 _ ⟨s6, _⟩ => SqL.of (s6 _ _ k5)) ?_ ?_
  · rintro i y ys H6 hy ⟨s6, hnum, rfl⟩
    have hi : i < (esOf t).length := by
      have := (List.getElem?_eq_some_iff.mp hy).1
      omega
    obtain ⟨l, el, rfl⟩ : ∃ l, ls[1 + i]? = some l ∧ y = .ref l := by
      rw [List.getElem?_map, List.getElem?_drop] at hy
      cases zz : ls[1 + i]? with
      | none => rw [zz] at hy; cases hy
      | some l => rw [zz] at hy; exact ⟨l, rfl, (Option.some.inj hy).symm⟩
    have gx := gW (1 + i) (by omega)
    have mx : (wordsOf8 t).getD (1 + i) Str.empty ∈ wordsOf8 t := List.mem_of_getElem? gx
    have gd : ((wordsOf8 t).drop 1)[i]? = some ((wordsOf8 t).getD (1 + i) Str.empty) := by rw [List.getElem?_drop]; exact gx
    have hv := s6 _ _ (s5 _ _ (hc4 _ l el))
    have hl := lenH _ mx _ (inH _ (h2 _ mx)).1
    refine ⟨_, rfl, l, _, _, _, rfl, rfl, SqL.of hv, (show atI [V.str (fstH ((wordsOf8 t).getD (1 + i) Str.empty)), .str (sndH ((wordsOf8 t).getD (1 + i) Str.empty))] ((0 : Nat) : Int) = some (.str (fstH ((wordsOf8 t).getD (1 + i) Str.empty))) from atI_nat rfl), _, rfl, hl.2, hl.1, fun e2 H7 s7 => ⟨s6.trans s7, fun x hx => ?_, ?_⟩, fun e2 H7 s7 => z (fun R => ?_) none H7 (s15.trans (s6.trans s7))⟩
    · rw [List.take_add_one, gd, List.mem_append] at hx
      rcases hx with hx | hx
      · exact hnum x hx
      · have : x = (wordsOf8 t).getD (1 + i) Str.empty := by simpa using hx
        rw [this]; exact e2
    · have := take_map_succ (fun n : Nat => n) hi
      rw [List.map_id', List.map_id'] at this
      rw [this, nats_app, getE i hi]; rfl
    · have := R.els _ (List.mem_of_getElem? gd)
      rw [e2] at this; cases this
  rintro ys H6 ⟨s6, hnum, rfl⟩ ea nea
  rw [ld] at hnum ⊢
  rw [← le, List.take_length]
  rw [List.take_of_length_le (by rw [List.length_drop]; exact Nat.le_refl _)] at hnum
  have s7 := same_new nea (.lst (nats (esOf t)))
  have k7 := upd_same (H := H6) (a := ea) (o := .lst (nats (esOf t)))
  generalize upd H6 ea (.lst (nats (esOf t))) = H7 at s7 k7 ⊢
  have s47 : Same H4 H7 := s5.trans (s6.trans s7)
  have s17 := s14.trans s47
  refine ⟨_, rfl, pa, rfl, ⟨_, SqL.of (s47 _ _ k4)⟩, ?_⟩
  have lw2 : (ls.map V.ref).length = (wsOf t).length := by rw [List.length_map]; omega
  refine lc_listY (xs := ls.map V.ref) (fun i ys H8 => Same H7 H8 ∧ (∀ x ∈ (wordsOf8 t).take i, isNum (sndH x) = true) ∧ ys = nats ((wsOf t).take i)) ⟨Same.refl _, (fun x hx => by simp at hx), rfl⟩ (by omega) (fun i ys H8 ⟨_, _, e⟩ => by rw [e, nats_length, List.length_take]; omega) (fun i ys H8 _ ⟨s8, _⟩ => SqL.of (s8 _ _ (s47 _ _ k4))) ?_ ?_
  · rintro i y ys H8 hy ⟨s8, hnw, rfl⟩
    have hi : i < (wsOf t).length := by
      have := (List.getElem?_eq_some_iff.mp hy).1
      omega
    obtain ⟨l, el, rfl⟩ : ∃ l, ls[i]? = some l ∧ y = .ref l := by
      rw [List.getElem?_map] at hy
      cases zz : ls[i]? with
      | none => rw [zz] at hy; cases hy
      | some l => rw [zz] at hy; exact ⟨l, rfl, (Option.some.inj hy).symm⟩
    have gx := gW i (by omega)
    have mx : (wordsOf8 t).getD i Str.empty ∈ wordsOf8 t := List.mem_of_getElem? gx
    have hv := s8 _ _ (s47 _ _ (hc4 _ l el))
    have hl := lenH _ mx _ (inH _ (h2 _ mx)).2
    refine ⟨_, rfl, l, _, _, _, rfl, rfl, SqL.of hv, (show atI [V.str (fstH ((wordsOf8 t).getD i Str.empty)), .str (sndH ((wordsOf8 t).getD i Str.empty))] ((1 : Nat) : Int) = some (.str (sndH ((wordsOf8 t).getD i Str.empty))) from atI_nat rfl), _, rfl, hl.2, hl.1, fun e2 H9 s9 => ⟨s8.trans s9, fun x hx => ?_, ?_⟩, fun e2 H9 s9 => z (fun R => ?_) none H9 (s17.trans (s8.trans s9))⟩
    · rw [List.take_add_one, gx, List.mem_append] at hx
      rcases hx with hx | hx
      · exact hnw x hx
      · have : x = (wordsOf8 t).getD i Str.empty := by simpa using hx
        rw [this]; exact e2
    · have := take_map_succ (fun n : Nat => n) hi
      rw [List.map_id', List.map_id'] at this
      rw [this, nats_app, getW i hi]; rfl
    · have := R.wos _ mx
      rw [e2] at this; cases this
  rintro ys H8 ⟨s8, hnw, rfl⟩ wa nwa
  rw [lw2] at hnw ⊢
  rw [List.take_length]
  rw [lv, List.take_length] at hnw
  have s9 := same_new nwa (.lst (nats (wsOf t)))
  have k9 := upd_same (H := H8) (a := wa) (o := .lst (nats (wsOf t)))
  generalize upd H8 wa (.lst (nats (wsOf t))) = H9 at s9 k9 ⊢
  have ke := s9 _ _ (s8 _ _ k7)
  have sA : Same H H9 := s17.trans (s8.trans s9)
  have hrd : Good (esOf t) (wsOf t) → Reads t := fun G => ⟨h2, htop, hnum, hnw, G⟩
  refine ⟨⟨_, rfl, _, rfl, fun x dx nx ndx nex => ?_⟩, ?_⟩
  · have s5' : ∀ b o, H9 b = some o → b ≠ x ∧ b ≠ dx := fun b o zz => ⟨ne_of_none zz nx, ne_of_none zz ndx⟩
    have sB : Same H9 (upd (upd H9 dx (.own x)) x (.ins C dx [])) := (same_new ndx _).trans (same_new (by rw [upd_ne nex.symm]; exact nx) _)
    refine ⟨x, dx, ea, wa, _, _, rfl, upd_same, (by rw [izs_nats]; exact sB _ _ ke), (by rw [izs_nats]; exact sB _ _ k9), fun es' ws' e1 e2 G HA kA IA => ⟨rfl, ?_⟩, fun n HA sA2 => ⟨rfl, rfl, sA.trans (sB.trans sA2), fun G => n (good_ok G)⟩⟩
    have e3 : esOf t = es' := nats_inj (by rw [← izs_nats]; exact e1)
    have e4 : wsOf t = ws' := nats_inj (by rw [← izs_nats]; exact e2)
    subst e3 e4
    have sC : Same H9 HA := fun b o zz => kA b o (s5' b o zz).1 (sB _ _ zz)
    exact q (hrd G) x HA (sA.trans sC) IA
  · rintro cls cx H2 ea2 ⟨rfl, rfl, s2, n⟩ hea
    refine ⟨rfl, XB, ?_⟩
    exact ⟨one, upd_same, z (fun R => n R.good) _ _ (s2.trans (same_new hea _))⟩
end
end FT
set_option Elab.async false
set_option maxHeartbeats 4000000
set_option maxRecDepth 20000
namespace FT
open PySem L2 TM TX
abbrev s_number : Stmt := (top 28)
noncomputable def numV (x : Str) : V := if isNum x = true then .int (nOf x : Nat) else .non
def spNumber : Sp := fun vs H Q _ => ∃ x, vs = [.str x] ∧ Asc x ∧ x.length ≤ 1000 ∧ Q (numV x) H
section
variable {P : Program} {w : World} {K : PySem.W.Frag} {mg : Str → Option Value} {base : Heap} {f C CB CT : Addr} {fd : FuncData}
theorem sc_number : FnScope ["word", "sign"] ["word"] (defScope s_number) := ⟨rfl, rfl, rfl, by decide +kernel, rfl, by decide +kernel, by decide +kernel⟩
theorem ok_number (F : Fun K "_law_number" "_law_number" s_number f fd) (N : Nm mg) : FnOk P w K mg base CX0 1 f fd ["word"] spNumber := by
  refine F.ok sc_number (fun vs H Q E h => ?_) (fun cdv A outer s H vs Q E hr h => ?_)
  · obtain ⟨x, rfl, _⟩ := h
    rfl
  obtain ⟨x, rfl, ha, hn, q⟩ := h
  have hnd := sc_number.nd
  have hpo := @PassesOwn.never
  have mn_len := N.len
  have mn_int := N.int
  refine ⟨_, (pss_cons (ps_if (PW.pt (pw_or (pt_cmpR op_eq (pv 0) pe_str (nomark _)) (pw_or (pt_cmpR op_gt (pe_callB call_len_str (by rfl) mn_len PySem.boot_len (pa_cons (pv 0) pa_nil)) pe_int (nomark _)) (pw_or1 (PW.pt (pw_and (pt_cmpR op_eq (pe_ix ix_str (pv 0) pe_int (fun _ _ => rfl)) pe_str (nomark _)) (pw_and1 (pt_cmpR op_ne (pv 0) pe_str (nomark _))))))))) (pss_one (ps_ret pe_non)) pss_nil)
    (pss_cons (ps_for hpo rfl (pi_str (pv 0)) (pg_name (i := 1) hnd rfl (by first | exact Or.inl rfl | exact Or.inr rfl)) (pss_one (ps_if (pt_cmpR op_notIn_str (pv 1) pe_str (by rfl)) (pss_one (ps_ret pe_non)) pss_nil)))
    (pss_one (ps_ret (pe_callTy call_intS (by rfl) mn_int bo_int (pa_cons (pv 0) pa_nil)))))), ?_⟩
  have sl : x.length ≤ sizeLine := small (by omega)
  have q0 : isNum x = false → Q .non H := fun e => by unfold numV at q; rwa [e, if_neg Bool.false_ne_true] at q
  refine ⟨_, rfl, rfl, _, rfl, ite2 (fun c => ?_) (fun c0 => ?_)⟩
  · have c' : V.str x = V.str (Str.ofString "") := of_decide_eq_true c
    refine iteT (q0 ?_)
    rw [V.str.inj c']; decide +kernel
  have l1 : 1 ≤ x.length := by
    have c' : ¬ V.str x = V.str (Str.ofString "") := of_decide_eq_false (Bool.eq_false_iff.mpr c0)
    rcases Nat.eq_zero_or_pos x.length with h | h
    · refine absurd (congrArg V.str ?_) c'
      refine sg_inj ?_
      rw [len_sg] at h
      rw [List.eq_nil_of_length_eq_zero h]; decide +kernel
    · exact h
  refine ⟨_, rfl, _, rfl, sl, _, _, rfl, rfl, _, rfl, ite2 (fun c => ?_) (fun c4 => ?_)⟩
  · have c' : (4 : Int) < ((x.length : Nat) : Int) := of_decide_eq_true c
    refine iteT (q0 ?_)
    unfold isNum
    rw [decide_eq_false (show ¬ x.length ≤ 4 by omega), Bool.and_false, Bool.false_and, Bool.false_and]
  have l4 : x.length ≤ 4 := by
    have c' : ¬ (4 : Int) < ((x.length : Nat) : Int) := of_decide_eq_false (Bool.eq_false_iff.mpr c4)
    omega
  have h0 : 0 < x.cps.size := l1
  have hix : atI x.cps.toList ((0 : Nat) : Int) = some x.cps[0] := atI_nat (by rw [Array.getElem?_toList, Array.getElem?_eq_getElem h0])
  have get0 : x.cps[0]? = some x.cps[0] := Array.getElem?_eq_getElem h0
  have e48 : (Str.ofString "0").cps[0]? = some 48 := by decide +kernel
  refine ⟨_, rfl, _, _, _, rfl, rfl, sl, hix, rfl, _, rfl, ite2 (fun c => ?a) (fun c => iteF ?b)⟩
  case' a =>
    have c' : V.str ⟨#[x.cps[0]]⟩ = V.str (Str.ofString "0") := of_decide_eq_true c
    have hc : x.cps[0] = 48 := by
      have z := congrArg (fun s : Str => s.cps[0]?) (V.str.inj c')
      have z1 : (some x.cps[0] : Option Nat) = (Str.ofString "0").cps[0]? := z
      rw [e48] at z1
      exact Option.some.inj z1
    refine ⟨_, rfl, rfl, _, rfl, ite2 (fun c2 => ?_) (fun c2 => ?_)⟩
    · have n0 : ¬ x = Str.ofString "0" := fun z => by rw [z] at c2; revert c2; decide +kernel
      refine q0 ?_
      unfold isNum
      rw [get0, hc, decide_eq_false (show ¬ x = ("0" : String) from n0), decide_eq_false (show ¬ (some 48 ≠ some 48) from fun z => z rfl), Bool.or_false, Bool.and_false, Bool.false_and]
    have hlead : x.cps[0]? ≠ some 48 ∨ x = ("0" : String) := .inr (V.str.inj (by simpa using c2))
  case' b =>
    have hlead : x.cps[0]? ≠ some 48 ∨ x = ("0" : String) := .inl fun z => by
      rw [get0] at z
      have z' := Option.some.inj z
      have c' : ¬ V.str ⟨#[x.cps[0]]⟩ = V.str (Str.ofString "0") := of_decide_eq_false (Bool.eq_false_iff.mpr c)
      rw [z'] at c'
      exact c' (by decide +kernel)
  all_goals
    have key : isNum x = (sg x).all dig := by
      unfold isNum
      rw [decide_eq_true l1, decide_eq_true l4]
      have : (decide (x.cps[0]? ≠ some 48) || decide (x = ("0" : String))) = true := by
        rcases hlead with h | h
        · rw [decide_eq_true h, Bool.true_or]
        · rw [decide_eq_true h, Bool.or_true]
      rw [this]; rfl
    refine ⟨_, rfl, _, rfl, ha.all, for_str (fun i σ H3 => ∃ u, σ = [some (.str x), u] ∧ H3 = H ∧ ((sg x).take i).all dig = true) ⟨none, rfl, rfl, rfl⟩ ?_ ?_⟩
    · rintro i c σ H3 hc ⟨u, rfl, rfl, hall⟩
      have hi : (sg x)[i]? = some c := by rw [← hc, ← Array.getElem?_toList]
      have hm : c < 128 := ha c (List.mem_of_getElem? hi)
      refine ⟨_, rfl, _, _, rfl, rfl, _, rfl, ?_⟩
      rw [fig_dig hm]
      refine ite2 (fun cc => q0 ?_) (fun cc => ⟨_, rfl, rfl, ?_⟩)
      · have cd : dig c = false := by simpa using cc
        rw [key]
        refine Bool.eq_false_iff.mpr fun z => ?_
        have := List.all_eq_true.mp z c (List.mem_of_getElem? hi)
        rw [cd] at this; cases this
      · have cd : dig c = true := by simpa using cc
        rw [List.take_add_one, hi, List.all_append, hall]
        show (true && [c].all dig) = true
        rw [List.all_cons, cd]; rfl
    · rintro σ H3 ⟨u, rfl, rfl, hall⟩
      rw [len_sg, List.take_length, ← key] at hall
      refine ⟨_, rfl, _, _, rfl, nOf_reads hall, (by omega), ?_⟩
      unfold numV at q
      rwa [if_pos hall] at q
end
end FT
set_option Elab.async false
set_option maxHeartbeats 4000000
set_option maxRecDepth 20000
namespace FT
open PySem L2 TM TX
abbrev s_due : Stmt := (top 29)
def spDue : Sp := fun vs H Q _ => ∃ t, vs = [.str t] ∧ Asc t ∧ t.length ≤ 900 ∧ (Reads t → ∀ (r e u : Addr) (H' : Hp), Same H H' → H' r = some (.tup [.ref e, .ref u]) → H' e = some (.lst (nats (esOf t))) → H' u = some (.lst (nats (wsOf t))) → Q (.ref r) H') ∧ (¬ Reads t → ∀ H', Same H H' → Q .non H')
noncomputable def elV (t : Str) (i : Nat) : List V := (((wordsOf8 t).take i).drop 1).map fun x => numV (fstH x)
noncomputable def woV (t : Str) (i : Nat) : List V := ((wordsOf8 t).take i).map fun x => numV (sndH x)
theorem flat_num (x : Str) : flatV (numV x) = true := by unfold numV; split <;> rfl
theorem flat_nums (g : Str → Str) (l : List Str) : (l.map fun x => numV (g x)).all flatV = true := by
  rw [List.all_map]
  exact List.all_eq_true.mpr fun x _ => flat_num (g x)
theorem none_in {g : Str → Str} {l : List Str} (h : inV .non (l.map fun x => numV (g x)) = true) : ∃ x ∈ l, isNum (g x) = false := by
  unfold inV at h
  rw [List.any_map, List.any_eq_true] at h
  obtain ⟨x, hx, e⟩ := h
  refine ⟨x, hx, ?_⟩
  cases z : isNum (g x) with
  | false => rfl
  | true =>
    have : eqV (numV (g x)) .non = true := e
    unfold numV at this
    rw [if_pos z] at this
    cases this
theorem none_out {g : Str → Str} {l : List Str} (h : ¬ inV .non (l.map fun x => numV (g x)) = true) : ∀ x ∈ l, isNum (g x) = true := fun x hx => by
  cases z : isNum (g x) with
  | true => rfl
  | false =>
    refine absurd ?_ h
    unfold inV
    rw [List.any_map, List.any_eq_true]
    refine ⟨x, hx, ?_⟩
    show eqV (numV (g x)) .non = true
    unfold numV
    rw [if_neg (by rw [z]; exact Bool.false_ne_true)]; rfl
theorem nums_nats {g : Str → Str} {l : List Str} (h : ∀ x ∈ l, isNum (g x) = true) : (l.map fun x => numV (g x)) = nats (l.map fun x => nOf (g x)) := by
  rw [nats_ints, List.map_map, List.map_map]
  refine List.map_congr_left fun x hx => ?_
  show numV (g x) = V.int _
  unfold numV
  rw [if_pos (h x hx)]
section
variable {P : Program} {w : World} {K : PySem.W.Frag} {mg : Str → Option Value} {base : Heap} {f C CB CT : Addr} {fd : FuncData}
theorem sc_due : FnScope ["text", "elders", "worths", "k", "word", "parts"] ["text"] (defScope s_due) := ⟨rfl, rfl, rfl, by decide +kernel, rfl, by decide +kernel, by decide +kernel⟩
theorem ok_due (F : Fun K "_law_due" "_law_due" s_due f fd) (N : Nm mg) (D_law_number : DefOk P w K mg base CX0 "_law_number" 1 ["word"] spNumber) : FnOk P w K mg base CX0 2 f fd ["text"] spDue := by
  refine F.ok sc_due (fun vs H Q E h => ?_) (fun cdv A outer s H vs Q E hr h => ?_)
  · obtain ⟨t, rfl, _⟩ := h
    rfl
  obtain ⟨t, rfl, ha, hn, q, z⟩ := h
  have hnd := sc_due.nd
  have hpo := @PassesOwn.never
  have mn_len := N.len
  have mn_enumerate := N.enumerate
  have mn_max := N.max
  have mn_range := N.range
  refine ⟨_, (pss_cons (ps_set (i := 1) hnd rfl (by first | exact Or.inl rfl | exact Or.inr rfl) (pe_lst pa_nil))
    (pss_cons (ps_set (i := 2) hnd rfl (by first | exact Or.inl rfl | exact Or.inr rfl) (pe_lst pa_nil))
    (pss_cons (ps_for hpo rfl (pi_enum mn_enumerate (pa_cons (pe_bm PySem.F.plainAttrs_str PySem.F.slot_str_split PySem.F.type_str_split mt_split (pv 0) (pa_cons pe_str pa_nil)) pa_nil)) (pg_tup rfl (pgs_cons (pg_name (i := 3) hnd rfl (by first | exact Or.inl rfl | exact Or.inr rfl)) (pgs_cons (pg_name (i := 4) hnd rfl (by first | exact Or.inl rfl | exact Or.inr rfl)) pgs_nil))) (pss_cons (ps_set (i := 5) hnd rfl (by first | exact Or.inl rfl | exact Or.inr rfl) (pe_bm PySem.F.plainAttrs_str PySem.F.slot_str_split PySem.F.type_str_split mt_split (pv 4) (pa_cons pe_str pa_nil)))
      (pss_cons (ps_if (PW.pt (pw_or (pt_cmpR op_ne (pe_callB call_len_seq (by rfl) mn_len PySem.boot_len (pa_cons (pv 5) pa_nil)) pe_int (nomark _)) (pw_or1 (pt_cmpR op_ne (pe_cmpR op_eq (pe_ix ix_list (pv 5) pe_int (fun _ _ => rfl)) pe_str (nomark _)) (pe_cmpR op_eq (pv 3) pe_int (nomark _)) (nomark _))))) (pss_one (ps_ret pe_non)) pss_nil)
      (pss_cons (ps_expr (pe_bm PySem.F.plainAttrs_list PySem.F.slot_list_append PySem.F.type_list_append mt_append (pv 2) (pa_cons (pe_def D_law_number hr pass0 (pa_cons (pe_ix ix_list (pv 5) pe_int (fun _ _ => rfl)) pa_nil)) pa_nil)))
      (pss_one (ps_if (pt_cmpR op_gt (pv 3) pe_int (nomark _)) (pss_one (ps_expr (pe_bm PySem.F.plainAttrs_list PySem.F.slot_list_append PySem.F.type_list_append mt_append (pv 1) (pa_cons (pe_def D_law_number hr pass0 (pa_cons (pe_ix ix_list (pv 5) pe_int (fun _ _ => rfl)) pa_nil)) pa_nil)))) pss_nil))))))
    (pss_cons (ps_if (PW.pt (pw_or (pt_cmpR op_in_seq pe_non (pv 1) (by rfl)) (pw_or (pt_cmpR op_in_seq pe_non (pv 2) (by rfl)) (pw_or (pt_cmpR op_gt (pe_callB call_len_seq (by rfl) mn_len PySem.boot_len (pa_cons (pv 2) pa_nil)) pe_int (nomark _)) (pw_or1 (pt_cmpR op_gt (pe_callB (call_maxL rfl) (by rfl) mn_max bo_max (pa_cons (pv 2) pa_nil)) pe_int (nomark _))))))) (pss_one (ps_ret pe_non)) pss_nil)
    (pss_cons (ps_if (pt_cmpR op_in_seq pe_bl (pe_lcSB ["text", "elders", "worths", "", "word", "parts"] rfl (pi_range1 (by rfl) mn_range (pa_cons (pe_callB call_len_seq (by rfl) mn_len PySem.boot_len (pa_cons (pv 1) pa_nil)) pa_nil)) (fun cl C s0 H0 fp pn => pts_nil) (fun cl C s0 H0 fp pn => (pe_cmpR op_gt (pe_ix (ix_listK (K := K)) (pv 2) (pv 0) (fun _ _ => rfl)) (pv 0) (nomark _))) (by kernel_rfl)) (by rfl)) (pss_one (ps_ret pe_non)) pss_nil)
    (pss_one (ps_ret (pe_tup (pa_cons (pv 1) (pa_cons (pv 2) pa_nil)))))))))), ?_⟩
  have zer : (0 : Nat) ≤ sizeLine := by decide
  refine ⟨zer, fun le ne => ⟨zer, fun lw nw => ?_⟩⟩
  have se := same_new ne (.lst [])
  have sw := same_new nw (.lst [])
  have ke0 := sw _ _ (upd_same (H := H) (a := le) (o := .lst []))
  have kw0 := upd_same (H := upd H le (.lst [])) (a := lw) (o := .lst [])
  have new0 : le ≠ lw := ne_of_none (upd_same (H := H) (a := le) (o := .lst [])) nw
  have s0 := se.trans sw
  have nlw : H lw = none := se.free nw
  generalize upd (upd H le (.lst [])) lw (.lst []) = H0 at s0 ke0 kw0 ⊢
  refine ⟨_, rfl, rfl, _, _, rfl, rfl, by decide +kernel, small (by omega), fun p np => ?_⟩
  have k1 : upd H0 p (.lst ((Txt.split t (Str.ofString " ")).map V.str)) p = some (.lst ((wordsOf8 t).map V.str)) := upd_same
  have s1 := same_new np (.lst ((Txt.split t (Str.ofString " ")).map V.str))
  generalize upd H0 p (.lst ((Txt.split t (Str.ofString " ")).map V.str)) = H1 at k1 s1 ⊢
  have hsep : sep = ⟨#[32]⟩ := sep_is
  have hcol : col = ⟨#[58]⟩ := col_is
  have cnt : (wordsOf8 t).length ≤ t.length + 1 := by unfold wordsOf8; rw [hsep]; exact split_count t
  have hpos : 0 < (wordsOf8 t).length := List.length_pos_iff.mpr (by unfold wordsOf8; rw [hsep]; exact split_ne)
  have lenW : ∀ x ∈ wordsOf8 t, x.length ≤ t.length := fun x hx => by unfold wordsOf8 at hx; rw [hsep] at hx; exact split_len hx
  have ascW : ∀ x ∈ wordsOf8 t, Asc x := fun x hx => by unfold wordsOf8 at hx; rw [hsep] at hx; exact ha.split hx
  have inH : ∀ x, (halves8 x).length = 2 → fstH x ∈ halves8 x ∧ sndH x ∈ halves8 x := fun x e => by rw [two_is e]; simp
  have lenH : ∀ x ∈ wordsOf8 t, ∀ y ∈ halves8 x, y.length ≤ 1000 ∧ Asc y := fun x hx y hy => by
    unfold halves8 at hy
    rw [hcol] at hy
    have := split_len hy
    have := lenW x hx
    exact ⟨by omega, (ascW x hx).split hy⟩
  have gW : ∀ i, i < (wordsOf8 t).length → (wordsOf8 t)[i]? = some ((wordsOf8 t).getD i Str.empty) := fun i hi => by rw [List.getD_eq_getElem?_getD, List.getElem?_eq_getElem hi]; rfl
  have npl : p ≠ le := (ne_of_none ke0 np).symm
  have npw : p ≠ lw := (ne_of_none kw0 np).symm
  have nle : H le = none := ne
  refine ⟨p, _, rfl, k1, for_enum (xs := (wordsOf8 t).map V.str) (fun i σ H3 => ∃ kv wv pv, σ = [some (.str t), some (.ref le), some (.ref lw), kv, wv, pv] ∧ Same H H3 ∧ H3 p = some (.lst ((wordsOf8 t).map V.str)) ∧ H3 le = some (.lst (elV t i)) ∧ H3 lw = some (.lst (woV t i)) ∧
      (∀ j, j < i → (halves8 ((wordsOf8 t).getD j Str.empty)).length = 2 ∧ (fstH ((wordsOf8 t).getD j Str.empty) = dash ↔ j = 0))) ⟨none, none, none, rfl, s0.trans s1, k1, s1 _ _ ke0, s1 _ _ kw0, fun j hj => absurd hj (Nat.not_lt_zero j)⟩ (fun i σ H3 _ ⟨_, _, _, _, _, k3, _⟩ => SqL.of k3) ?_ ?_⟩
  · rintro i y σ H3 pp hy ⟨kv, wv, pv, rfl, s3, k3, ke3, kw3, hall⟩ npp
    have hi : i < (wordsOf8 t).length := by
      have := (List.getElem?_eq_some_iff.mp hy).1
      rwa [List.length_map] at this
    have gx := gW i hi
    have ey : y = .str ((wordsOf8 t).getD i Str.empty) := by
      rw [List.getElem?_map, gx] at hy
      exact (Option.some.inj hy).symm
    subst ey
    have mx : (wordsOf8 t).getD i Str.empty ∈ wordsOf8 t := List.mem_of_getElem? gx
    have lx := lenW _ mx
    generalize hX : (wordsOf8 t).getD i Str.empty = x at gx mx lx ⊢
    refine ⟨pp, _, rfl, SqT.of upd_same, rfl, _, _, rfl, _, _, rfl, rfl, ?_⟩
    have s4 := same_new npp (.tup [.int (0 + (i : Nat)), .str x])
    have k4 := s4 _ _ k3
    have ke4 := s4 _ _ ke3
    have kw4 := s4 _ _ kw3
    have s34 := s3.trans s4
    generalize upd H3 pp (.tup [.int (0 + (i : Nat)), .str x]) = H4 at s34 k4 ke4 kw4 ⊢
    refine ⟨_, rfl, rfl, _, _, rfl, rfl, by decide +kernel, small (by omega), fun hp nhp => ?_⟩
    have s5 := same_new nhp (.lst ((Txt.split x (Str.ofString ":")).map V.str))
    have k5 : upd H4 hp (.lst ((Txt.split x (Str.ofString ":")).map V.str)) hp = some (.lst ((halves8 x).map V.str)) := upd_same
    generalize upd H4 hp (.lst ((Txt.split x (Str.ofString ":")).map V.str)) = H5 at s5 k5 ⊢
    have s35 := s34.trans s5
    refine ⟨_, rfl, hp, _, rfl, .inl (SqL.of k5), rfl, _, rfl, ite2 (fun c => ?_) (fun c => ?_)⟩
    · have c' : (halves8 x).length ≠ 2 := fun e => by
        rw [List.length_map, e] at c
        revert c; decide
      exact iteT (z (fun R => c' (R.two x mx)) H5 s35)
    have c2 : (halves8 x).length = 2 := by
      rw [List.length_map] at c
      have c2 : V.int (((halves8 x).length : Nat) : Int) = V.int 2 := by simpa using c
      have := V.int.inj c2
      omega
    rw [two_is c2] at k5
    have tw : (V.bl (decide (V.str (fstH x) = V.str (Str.ofString "-"))) = V.bl (decide (V.int (0 + (i : Nat)) = V.int 0))) ↔ (fstH x = dash ↔ i = 0) := by
      have e1 : (V.str (fstH x) = V.str (Str.ofString "-")) ↔ fstH x = dash := ⟨fun h => V.str.inj h, fun h => congrArg V.str h⟩
      have e2 : (V.int (0 + (i : Nat)) = V.int 0) ↔ i = 0 := ⟨fun h => by have := V.int.inj h; omega, fun h => by rw [h]; rfl⟩
      rw [V.bl.injEq, decide_eq_decide, e1, e2]
    refine ⟨_, rfl, hp, _, _, _, rfl, rfl, SqL.of k5, (show atI [V.str (fstH x), .str (sndH x)] ((0 : Nat) : Int) = some (.str (fstH x)) from atI_nat rfl), rfl, _, rfl, rfl, rfl, _, rfl, ite2 (fun c => ?_) (fun c => ?_)⟩
    · have c' : ¬ (fstH x = dash ↔ i = 0) := fun h => by rw [decide_eq_true (tw.mpr h)] at c; cases c
      refine z (fun R => c' ?_) H5 s35
      constructor
      · intro h
        rcases Nat.eq_zero_or_pos i with h0 | h0
        · exact h0
        · exfalso
          have hm : x ∈ (wordsOf8 t).drop 1 := by
            have : ((wordsOf8 t).drop 1)[i - 1]? = some x := by rw [List.getElem?_drop, show 1 + (i - 1) = i by omega, gx]
            exact List.mem_of_getElem? this
          have := R.els x hm
          rw [h] at this
          revert this; decide +kernel
      · intro h
        have := R.top
        rw [← h, hX] at this
        exact this
    have hiff : fstH x = dash ↔ i = 0 := tw.mp (by simpa using c)
    have hin := inH x c2
    have hl1 := lenH x mx _ hin.2
    have hl0 := lenH x mx _ hin.1
    have ke5 := s5 _ _ ke4
    have kw5 := s5 _ _ kw4
    refine ⟨_, rfl, .inl ⟨rfl, _, SqL.of kw5⟩, _, rfl, hp, _, _, _, rfl, rfl, SqL.of k5, (show atI [V.str (fstH x), .str (sndH x)] ((1 : Nat) : Int) = some (.str (sndH x)) from atI_nat rfl), _, rfl, hl1.2, hl1.1, lw, _, _, rfl, rfl, kw5, small1000 (by unfold woV; rw [List.length_map, List.length_take]; omega), ?_⟩
    have ew : woV t i ++ [numV (sndH x)] = woV t (i + 1) := by
      unfold woV
      rw [List.take_add_one, gx, List.map_append]; rfl
    rw [ew]
    have nhw : hp ≠ lw := (ne_of_none kw4 nhp).symm
    have nhe : hp ≠ le := (ne_of_none ke4 nhp).symm
    have s6 : Same H (upd H5 lw (.lst (woV t (i + 1)))) := same_upd s35 nlw
    have k6 : upd H5 lw (.lst (woV t (i + 1))) p = _ := (upd_ne npw).trans (s5 _ _ k4)
    have ke6 : upd H5 lw (.lst (woV t (i + 1))) le = _ := (upd_ne new0).trans ke5
    have kh6 : upd H5 lw (.lst (woV t (i + 1))) hp = _ := (upd_ne nhw).trans k5
    have kw6 := upd_same (H := H5) (a := lw) (o := .lst (woV t (i + 1)))
    generalize upd H5 lw (.lst (woV t (i + 1))) = H6 at s6 k6 ke6 kh6 kw6 ⊢
    have hall' : ∀ j, j < i + 1 → (halves8 ((wordsOf8 t).getD j Str.empty)).length = 2 ∧ (fstH ((wordsOf8 t).getD j Str.empty) = dash ↔ j = 0) := fun j hj => by
      rcases Nat.lt_succ_iff_lt_or_eq.mp hj with h | h
      · exact hall j h
      · rw [h, hX]; exact ⟨c2, hiff⟩
    refine ⟨_, rfl, _, _, rfl, rfl, _, rfl, ite2 (fun c => ?_) (fun c => ?_)⟩
    · have c' : (0 : Int) < 0 + (i : Nat) := of_decide_eq_true c
      refine ⟨_, rfl, .inl ⟨rfl, _, SqL.of ke6⟩, _, rfl, hp, _, _, _, rfl, rfl, SqL.of kh6, (show atI [V.str (fstH x), .str (sndH x)] ((0 : Nat) : Int) = some (.str (fstH x)) from atI_nat rfl), _, rfl, hl0.2, hl0.1, le, _, _, rfl, rfl, ke6, small1000 (by unfold elV; rw [List.length_map, List.length_drop, List.length_take]; omega), ?_⟩
      have ee : elV t i ++ [numV (fstH x)] = elV t (i + 1) := by
        unfold elV
        rw [List.take_add_one, gx, List.drop_append_of_le_length (by rw [List.length_take]; omega), List.map_append]; rfl
      rw [ee]
      exact ⟨_, _, _, rfl, same_upd s6 nle, (upd_ne npl).trans k6, upd_same, (upd_ne new0.symm).trans kw6, hall'⟩
    · have c' : ¬ (0 : Int) < 0 + (i : Nat) := of_decide_eq_false (Bool.eq_false_iff.mpr c)
      have i0 : i = 0 := by omega
      have ee : elV t i = elV t (i + 1) := by
        unfold elV
        rw [i0]
        simp
      rw [ee] at ke6
      exact ⟨_, _, _, rfl, s6, k6, ke6, kw6, hall'⟩
  · rintro σ H3 ⟨kv, wv, pv, rfl, s3, k3, ke3, kw3, hall⟩
    rw [List.length_map] at ke3 kw3 hall
    have h2 : ∀ x ∈ wordsOf8 t, (halves8 x).length = 2 := fun x hx => by
      obtain ⟨j, hj, e⟩ := List.getElem_of_mem hx
      have := (hall j hj).1
      rw [List.getD_eq_getElem?_getD, List.getElem?_eq_getElem hj] at this
      rw [← e]; exact this
    have htop : fstH ((wordsOf8 t).getD 0 Str.empty) = dash := (hall 0 hpos).2.mpr rfl
    have ee : elV t (wordsOf8 t).length = ((wordsOf8 t).drop 1).map fun x => numV (fstH x) := by unfold elV; rw [List.take_length]
    have ew : woV t (wordsOf8 t).length = (wordsOf8 t).map fun x => numV (sndH x) := by unfold woV; rw [List.take_length]
    rw [ee] at ke3
    rw [ew] at kw3
    refine ⟨_, rfl, le, _, rfl, .inl (SqL.of ke3), rfl, flat_nums fstH _, _, rfl, ite2 (fun c => ?_) (fun c => ?_)⟩
    · refine iteT (z (fun R => ?_) H3 s3)
      obtain ⟨x, hx, e⟩ := none_in c
      have := R.els x hx
      rw [e] at this; cases this
    have hnum := none_out c
    refine ⟨_, rfl, lw, _, rfl, .inl (SqL.of kw3), rfl, flat_nums sndH _, _, rfl, ite2 (fun c2 => ?_) (fun c2 => ?_)⟩
    · refine iteT (z (fun R => ?_) H3 s3)
      obtain ⟨x, hx, e⟩ := none_in c2
      have := R.wos x hx
      rw [e] at this; cases this
    have hnw := none_out c2
    rw [nums_nats hnum] at ke3
    rw [nums_nats hnw] at kw3
    have ke3 : H3 le = some (.lst (nats (esOf t))) := ke3
    have kw3 : H3 lw = some (.lst (nats (wsOf t))) := kw3
    have lv : (wsOf t).length = (wordsOf8 t).length := by unfold wsOf; rw [List.length_map]
    have lel : (esOf t).length = (wordsOf8 t).length - 1 := by unfold esOf; rw [List.length_map, List.length_drop]
    refine ⟨_, rfl, lw, _, rfl, .inl (SqL.of kw3), _, _, rfl, rfl, _, rfl, ite2 (fun c3 => ?_) (fun c3 => ?_)⟩
    · have c' : (14 : Int) < (((nats (wsOf t)).length : Nat) : Int) := of_decide_eq_true c3
      rw [nats_length] at c'
      refine iteT (z (fun R => ?_) H3 s3)
      have := R.good.most
      omega
    have h14 : (wsOf t).length ≤ 14 := by
      have c' : ¬ (14 : Int) < (((nats (wsOf t)).length : Nat) : Int) := of_decide_eq_false (Bool.eq_false_iff.mpr c3)
      rw [nats_length] at c'
      omega
    refine ⟨_, rfl, lw, (wsOf t).map fun n : Nat => (n : Int), rfl, SqL.of (by rw [kw3, nats_ints]), (by rw [List.length_map]; omega), fun m hm hmax => ?_⟩
    refine ⟨_, _, rfl, rfl, _, rfl, ite2 (fun c4 => ?_) (fun c4 => ?_)⟩
    · have c' : (1000 : Int) < m := of_decide_eq_true c4
      refine z (fun R => ?_) H3 s3
      obtain ⟨n, hn2, e⟩ := List.mem_map.mp hm
      have := R.good.wo n hn2
      omega
    have h1000 : ∀ n ∈ wsOf t, n ≤ 1000 := fun n hn2 => by
      have c' : ¬ (1000 : Int) < m := of_decide_eq_false (Bool.eq_false_iff.mpr c4)
      have := hmax _ (List.mem_map.mpr ⟨n, hn2, rfl⟩)
      omega
    refine ⟨_, rfl, le, _, rfl, .inl (SqL.of ke3), (esOf t).length, (by rw [nats_length]), by omega, by omega, lc_rangeY (n := (esOf t).length) (fun i ys H4 => H4 = H3 ∧ ys = (List.range i).map fun j : Nat => V.bl (decide (((j : Nat) : Int) < ((esOf t).getD j 0 : Nat)))) ⟨rfl, rfl⟩ (by omega) (fun i ys H4 ⟨_, e⟩ => by rw [e, List.length_map, List.length_range]; exact Nat.le_refl _) ?_ ?_⟩
    · rintro i ys H4 hi ⟨rfl, rfl⟩
      have e1 : (0 : Int) + (i : Nat) = ((i : Nat) : Int) := by omega
      refine ⟨_, rfl, _, rfl, le, _, _, _, rfl, rfl, SqL.of ke3, (by rw [e1]; exact nats_at hi), _, rfl, _, _, rfl, rfl, rfl, ?_⟩
      rw [List.range_succ, List.map_append, e1]; rfl
    · rintro ys H4 ⟨rfl, rfl⟩ g ng
      have sg5 := s3.trans (same_new ng (.lst ((List.range (esOf t).length).map fun j : Nat => V.bl (decide (((j : Nat) : Int) < ((esOf t).getD j 0 : Nat))))))
      have keg := (same_new ng (.lst ((List.range (esOf t).length).map fun j : Nat => V.bl (decide (((j : Nat) : Int) < ((esOf t).getD j 0 : Nat)))))) _ _ ke3
      have kwg := (same_new ng (.lst ((List.range (esOf t).length).map fun j : Nat => V.bl (decide (((j : Nat) : Int) < ((esOf t).getD j 0 : Nat)))))) _ _ kw3
      refine ⟨g, _, rfl, .inl (SqL.of upd_same), rfl, ?_, _, rfl, ite2 (fun c5 => ?_) (fun c5 => ?_)⟩
      · rw [List.all_map]
        exact List.all_eq_true.mpr fun _ _ => rfl
      · refine z (fun R => ?_) _ sg5
        have c' : inV (.bl true) ((List.range (esOf t).length).map fun j : Nat => V.bl (decide (((j : Nat) : Int) < ((esOf t).getD j 0 : Nat)))) = true := c5
        unfold inV at c'
        rw [List.any_map, List.any_eq_true] at c'
        obtain ⟨j, hj, e⟩ := c'
        have hj' := List.mem_range.mp hj
        have e2 : eqV (.bl (decide ((j : Int) < ((esOf t).getD j 0 : Nat)))) (.bl true) = true := e
        have e3 : decide ((j : Int) < ((esOf t).getD j 0 : Nat)) = true := by simpa [eqV] using e2
        have e4 := of_decide_eq_true e3
        have := R.good.lt j hj'
        omega
      have hlt : ∀ j, j < (esOf t).length → (esOf t).getD j 0 ≤ j := fun j hj => by
        rcases Nat.lt_or_ge j ((esOf t).getD j 0) with h | h
        · refine absurd ?_ c5
          show inV (.bl true) ((List.range (esOf t).length).map fun j : Nat => V.bl (decide (((j : Nat) : Int) < ((esOf t).getD j 0 : Nat)))) = true
          unfold inV
          rw [List.any_map, List.any_eq_true]
          refine ⟨j, List.mem_range.mpr hj, ?_⟩
          show eqV (.bl (decide ((j : Int) < ((esOf t).getD j 0 : Nat)))) (.bl true) = true
          rw [decide_eq_true (show (j : Int) < ((esOf t).getD j 0 : Nat) by omega)]; rfl
        · exact h
      have R : Reads t := ⟨h2, htop, hnum, hnw, ⟨by omega, h14, hlt, h1000⟩⟩
      refine ⟨_, rfl, _, rfl, (by show 2 ≤ sizeLine; decide), fun r nr => ?_⟩
      have sr := same_new nr (.tup [.ref le, .ref lw])
      exact q R r le lw _ (sg5.trans sr) upd_same (sr _ _ keg) (sr _ _ kwg)
end
end FT
set_option Elab.async false
set_option maxHeartbeats 4000000
set_option maxRecDepth 20000
namespace FT
open PySem L2 TM TX
abbrev s_alone : Stmt := (top 26)
abbrev s_told : Stmt := (top 30)
theorem bo_ValueError : bootBuiltins "ValueError" = some (.type "ValueError") := by decide +kernel
/-- what isinstance and except say of one error class: which of the four it is -/
structure Kin (K : PySem.W.Frag) (C CB CN CP CT CF : Addr) (b1 b2 b3 b4 : Bool) : Prop where
  b : PySem.W.kitOne K (.ref C) (.ref CB) = some b1
  n : PySem.W.kitOne K (.ref C) (.ref CN) = some b2
  p : PySem.W.kitOne K (.ref C) (.ref CP) = some b3
  t : PySem.W.kitOne K (.ref C) (.ref CT) = some b4
  f : PySem.W.kitOne K (.ref C) (.ref CF) = some true
  v : PySem.W.kitOne K (.ref C) (.type "ValueError") = some true
  ex : PySem.W.exmOne K (.ref C) (.ref CF) = some true
structure Names (mg : Str → Option Value) (CB CN CP CT CF : Addr) : Prop where
  b : mg "BadTree" = some (.ref CB)
  n : mg "NoThing" = some (.ref CN)
  p : mg "BadPlan" = some (.ref CP)
  t : mg "NoText" = some (.ref CT)
  f : mg "FireError" = some (.ref CF)
  v : mg "ValueError" = none
  i : mg "isinstance" = none
def spAlone (CT : Addr) : Sp := fun vs H Q _ => ∃ ea : Addr, vs = [.ref ea] ∧ H ea = some (excO ea (.ref CT)) ∧ ∀ H', Same H H' → Q (.int 3) H'
def spTold (C CT : Addr) : Sp := fun vs H Q _ => ∃ t, vs = [.str t] ∧ Asc t ∧ t.length ≤ 900 ∧ (Reads t → ∀ (x : Addr) (H' : Hp), Same H H' → IsTree C H' x (esOf t) (wsOf t) → Q (.ref x) H') ∧ (¬ Reads t → ∀ ea H', Same H H' → H' ea = some (excO ea (.ref CT)) → Q (.ref ea) H')
section
variable {P : Program} {w : World} {K : PySem.W.Frag} {mg : Str → Option Value} {base : Heap} {f C CB CN CP CT CF : Addr} {fd : FuncData}
theorem sc_alone : FnScope ["e", "found"] ["e"] (defScope s_alone) := ⟨rfl, rfl, rfl, by decide +kernel, rfl, by decide +kernel, by decide +kernel⟩
theorem ok_alone (F : Fun K "_law_alone" "_law_alone" s_alone f fd) (N : Names mg CB CN CP CT CF) (KT : Kin K CT CB CN CP CT CF false false false true) (XT : XCls K CT) : FnOk P w K mg base CX0 1 f fd ["e"] (spAlone CT) := by
  refine F.ok sc_alone (fun vs H Q E h => ?_) (fun cdv A outer s H vs Q E hr h => ?_)
  · obtain ⟨ea, rfl, _⟩ := h
    rfl
  obtain ⟨ea, rfl, he, q⟩ := h
  have hnd := sc_alone.nd
  have mn_isinstance := N.i
  have mn_ValueError := N.v
  have hm_BadTree := N.b
  have hm_NoThing := N.n
  have hm_BadPlan := N.p
  have hm_NoText := N.t
  have hm_FireError := N.f
  refine ⟨_, (pss_cons (ps_set (i := 1) hnd rfl (by first | exact Or.inl rfl | exact Or.inr rfl) (pe_lst (pa_cons (pe_callB call_isx (by rfl) mn_isinstance bo_isinstance (pa_cons (pv 0) (pa_cons (pe_cl hm_BadTree) pa_nil))) (pa_cons (pe_callB call_isx (by rfl) mn_isinstance bo_isinstance (pa_cons (pv 0) (pa_cons (pe_cl hm_NoThing) pa_nil))) (pa_cons (pe_callB call_isx (by rfl) mn_isinstance bo_isinstance (pa_cons (pv 0) (pa_cons (pe_cl hm_BadPlan) pa_nil))) (pa_cons (pe_callB call_isx (by rfl) mn_isinstance bo_isinstance (pa_cons (pv 0) (pa_cons (pe_cl hm_NoText) pa_nil))) pa_nil))))))
    (pss_cons (ps_if (PW.pt (pw_or (pt_not (pt_val (pe_callB call_isx (by rfl) mn_isinstance bo_isinstance (pa_cons (pv 0) (pa_cons (pe_cl hm_FireError) pa_nil))))) (pw_or (pt_not (pt_val (pe_callB call_isx (by rfl) mn_isinstance bo_isinstance (pa_cons (pv 0) (pa_cons (pe_bty mn_ValueError bo_ValueError) pa_nil))))) (pw_or1 (pt_cmpR op_ne (pe_bm PySem.F.plainAttrs_list PySem.F.slot_list_count PySem.F.type_list_count mt_count (pv 1) (pa_cons pe_bl pa_nil)) pe_int (nomark _)))))) (pss_one (ps_ret (pe_un un_neg pe_int))) pss_nil)
    (pss_one (ps_ret (pe_bm PySem.F.plainAttrs_list PySem.F.slot_list_index PySem.F.type_list_index mt_index (pv 1) (pa_cons pe_bl pa_nil)))))), ?_⟩
  have four : (4 : Nat) ≤ sizeLine := by decide
  refine ⟨_, rfl, _, _, _, _, _, rfl, rfl, TyX.exc he XT, KT.b, _, rfl, _, _, _, _, _, rfl, rfl, TyX.exc he XT, KT.n, _, rfl, _, _, _, _, _, rfl, rfl, TyX.exc he XT, KT.p, _, rfl, _, _, _, _, _, rfl, rfl, TyX.exc he XT, KT.t, four, fun l hl => ?_⟩
  have s1 := same_new hl (.lst [.bl false, .bl false, .bl false, .bl true])
  refine ⟨_, rfl, _, _, _, _, _, rfl, rfl, TyX.exc (s1 _ _ he) XT, KT.f, _, rfl, ?_⟩
  refine iteF ⟨_, rfl, _, _, _, _, _, rfl, rfl, TyX.exc (s1 _ _ he) XT, KT.v, _, rfl, ?_⟩
  refine iteF ⟨_, rfl, .inl ⟨rfl, _, SqL.of upd_same⟩, l, _, _, rfl, rfl, upd_same, rfl, rfl, rfl, _, rfl, ?_⟩
  refine iteNS (by rfl) ⟨_, rfl, .inl ⟨rfl, _, SqL.of upd_same⟩, l, _, _, 3, rfl, rfl, upd_same, rfl, rfl, four, ⟨_, rfl, rfl⟩, (fun m z h e => ?_), q _ s1⟩
  match m, h, e with
  | 0, _, e => cases e; rfl
  | 1, _, e => cases e; rfl
  | 2, _, e => cases e; rfl
theorem sc_told : FnScope ["text", "found", "e"] ["text"] (defScope s_told) := ⟨rfl, rfl, rfl, by decide +kernel, rfl, by decide +kernel, by decide +kernel⟩
theorem ok_told (F : Fun K "_law_told" "_law_told" s_told f fd) (N : Names mg CB CN CP CT CF) (KT : Kin K CT CB CN CP CT CF false false false true) (Dread : DefOk P w K mg base (CX1 P w) "read" 4 ["text"] (spRead C CT)) :
    FnOk P w K mg base (CX1 P w) 5 f fd ["text"] (spTold C CT) := by
  refine F.okX sc_told (fun vs H Q E h => ?_) (fun cdv A outer s H vs Q E hr h => ?_)
  · obtain ⟨t, rfl, _⟩ := h
    rfl
  obtain ⟨t, rfl, ha, hn, q, z⟩ := h
  have hnd := sc_told.nd
  have hm_FireError := N.f
  let EE : XK := fun cls _ H' => cls = .ref CT ∧ Same H H' ∧ ¬ Reads t
  refine ⟨_, (pss_cons (ps_set (i := 1) hnd rfl (by first | exact Or.inl rfl | exact Or.inr rfl) pe_non)
    (pss_cons (ps_try (i := 2) (EE := EE) hnd rfl rfl hm_FireError (fun pn E1 hpo hxt => (pss_one (ps_set (i := 1) hnd rfl (by first | exact Or.inl rfl | exact Or.inr rfl) (pe_def Dread hr hxt (pa_cons (pv 0) pa_nil))))) (fun ea => (pss_one (ps_set (i := 1) hnd rfl (by first | exact Or.inl rfl | exact Or.inr rfl) (pv 2)))))
    (pss_one (ps_ret (pv 1))))), ?_⟩
  refine ⟨⟨_, rfl, t, rfl, ha, hn, fun R x H2 s2 I2 => ?_, fun n c H2 s2 => ⟨rfl, s2, n⟩⟩, ?_⟩
  · exact ⟨_, rfl, q R x H2 s2 I2⟩
  · rintro cls cx H2 ea ⟨rfl, s2, n⟩ hea
    refine ⟨KT.ex, ?_⟩
    refine ⟨_, rfl, ?_⟩
    exact ⟨_, rfl, z n ea _ (s2.trans (same_new hea _)) upd_same⟩
end
end FT
set_option Elab.async false
set_option maxHeartbeats 4000000
set_option maxRecDepth 20000
namespace FT
open PySem L2 TM TX
abbrev s_law : Stmt := (top 31)
def spTurnedL : Sp := fun vs H Q _ => ∃ (t : Str) (way cell : Int), vs = [.str t, .int way, .int cell] ∧ Asc t ∧ t.length ≤ 200 ∧ 0 ≤ cell ∧ ∀ t' H', Asc t' → t'.length ≤ 900 → Same H H' → Q (.str t') H'
/-- that an instance of C is one of C -/
structure OwnCls (K : PySem.W.Frag) (C : Addr) : Prop where
  ha : PySem.W.findIn K (.ref C) "__class__" = some (some (.builtin "object.__class__"))
  hn : PySem.W.specialIn K (.builtin "object.__class__") "__get__" = some (some (.builtin "getset_descriptor.__get__"))
  htk : PySem.W.takesIn K (.builtin "object.__class__") = some true
  hm : PySem.W.mroIn K C (.type "object") = some true
  kk : PySem.W.kitOne K (.ref C) (.ref C) = some true
/-- one word more -/
theorem due_more (es ws : List Nat) (i : Nat) : textTo es ws (i + 1) ++ sep ++ num (es.getD i 0) ++ col ++ num (ws.getD (i + 1) 0) = textTo es ws (i + 1 + 1) := by
  rw [textTo_succ es ws (show 0 < i + 1 from Nat.succ_pos i)]
  unfold word eld
  rw [if_neg (by omega), Nat.add_sub_cancel]
  simp only [Str.append_assoc]
theorem small_log {n : Nat} (h : n ≤ 1000) : ((n : Nat) : Int).natAbs.log2 < 1920 := by
  rw [Int.natAbs_natCast]
  exact Nat.lt_of_le_of_lt (Nat.log2_le_self n) (by omega)
theorem asc_num {n : Nat} (h : n ≤ 1000) : Asc (num n) := fun c hc => by
  have := num_digits h c hc
  omega
theorem asc_word {es ws : List Nat} (G : Good es ws) (k : Nat) : Asc (word es ws k) := fun c hc => by
  unfold word at hc
  rw [sg_app, sg_app, List.mem_append, List.mem_append] at hc
  rcases hc with (hc | hc) | hc
  · unfold eld at hc
    split at hc
    · revert c; decide +kernel
    · exact asc_num (e_le G) c hc
  · revert c; decide +kernel
  · exact asc_num (w_le G) c hc
theorem asc_text {es ws : List Nat} (G : Good es ws) : Asc (text es ws) := fun c hc => by
  unfold text at hc
  rcases mem_join hc with h | ⟨p, hp, h⟩
  · clear hc
    revert c; decide +kernel
  · obtain ⟨k, _, rfl⟩ := List.mem_map.mp hp
    exact asc_word G k c h
theorem deq_each {K : PySem.W.Frag} {H : Hp} {n : Nat} (xs : List Nat) : ∀ (i : Nat) x y, (nats xs)[i]? = some x → (nats xs)[i]? = some y → DEq K H n x y true := by
  intro i x y e1 e2
  rw [e1] at e2
  have e3 := Option.some.inj e2
  subst e3
  have hi : i < xs.length := by
    have := (List.getElem?_eq_some_iff.mp e1).1
    rwa [nats_length] at this
  rw [nats_get hi] at e1
  have e4 := Option.some.inj e1
  subst e4
  have := DEq.flat (K := K) (H := H) (n := n) (x := .int (xs.getD i 0 : Nat)) (y := .int (xs.getD i 0 : Nat)) rfl rfl
  rwa [show eqV (.int (xs.getD i 0 : Nat)) (.int (xs.getD i 0 : Nat)) = true from decide_eq_true rfl] at this
theorem all_t : ∀ n : Nat, ((List.range n).all fun _ => true) = true := fun _ => List.all_eq_true.mpr fun _ _ => rfl
section
variable {P : Program} {w : World} {K : PySem.W.Frag} {mg : Str → Option Value} {base : Heap} {f C CT : Addr} {fd : FuncData}
theorem sc_law : FnScope ["script", "plot", "text", "k", "due", "turn", "found"] ["script"] (defScope s_law) := ⟨rfl, rfl, rfl, by decide +kernel, rfl, by decide +kernel, by decide +kernel⟩
theorem ok_law (F : Fun K "law" "law" s_law f fd) (N : Nm mg) (N8 : Nm8 mg) (O : OwnCls K C) (cl : Cls K C) (hm_Tree : mg "Tree" = some (.ref C)) (D_law_tree : DefOk P w K mg base (CX1 P w) "_law_tree" 4 ["script", "most"] (spTree K)) (D_law_draw : DefOk P w K mg base (CX1 P w) "_law_draw" 2 ["script", "k"] (spDraw K))
    (Melders : MethOk P w K mg base (CX1 P w) C "elders" 1 ["self"] (spGetE C)) (Mworths : MethOk P w K mg base (CX1 P w) C "worths" 1 ["self"] (spGetW C)) (D_law_turned : DefOk P w K mg base (CX1 P w) "_law_turned" 1 ["text", "way", "cell"] spTurnedL)
    (D_law_due : DefOk P w K mg base (CX1 P w) "_law_due" 2 ["text"] spDue) (D_law_told : DefOk P w K mg base (CX1 P w) "_law_told" 5 ["text"] (spTold C CT)) (D_law_alone : DefOk P w K mg base (CX1 P w) "_law_alone" 1 ["e"] (spAlone CT)) : FnOk P w K mg base (CX1 P w) 6 f fd ["script"] (spLaw K) := by
  refine F.okX sc_law (fun vs H Q E h => ?_) (fun cdv A outer s H vs Q E hr h => ?_)
  · obtain ⟨a, ns, rfl, _⟩ := h
    rfl
  obtain ⟨a, ns, rfl, hS, h63, q⟩ := h
  have hnd := sc_law.nd
  have hpo := @PassesOwn.leaving
  have mn_range := N.range
  have mn_len := N.len
  have mn_str := N8.str
  have mn_isinstance := N.isinstance
  have hu : (A.deeper (PyProof.Rows.envOfC "law" (defScope s_law) s.heap.objs.size f cdv)).units + 5 < cLine := by have := hr.units; omega
  refine ⟨_, (pss_cons (ps_set (i := 1) hnd rfl (by first | exact Or.inl rfl | exact Or.inr rfl) (pe_def D_law_tree hr pass1 (pa_cons (pv 0) (pa_cons pe_int pa_nil))))
    (pss_cons (ps_set (i := 2) hnd rfl (by first | exact Or.inl rfl | exact Or.inr rfl) (pe_op op_add_str pe_str (pe_callTy call_str_int (by rfl) mn_str bo_str (pa_cons (pe_ix ix_list (pe_ix ix_tup (pv 1) pe_int (fun _ _ => rfl)) pe_int (fun _ _ => rfl)) pa_nil))))
    (pss_cons (ps_for hpo rfl (pi_range1 (by rfl) mn_range (pa_cons (pe_callB call_len_seq (by rfl) mn_len PySem.boot_len (pa_cons (pe_ix ix_tup (pv 1) pe_int (fun _ _ => rfl)) pa_nil)) pa_nil)) (pg_name (i := 3) hnd rfl (by first | exact Or.inl rfl | exact Or.inr rfl)) (pss_one (ps_set (i := 2) hnd rfl (by first | exact Or.inl rfl | exact Or.inr rfl) (pe_op op_add_str (pe_op op_add_str (pe_op op_add_str (pe_op op_add_str (pv 2) pe_str) (pe_callTy call_str_int (by rfl) mn_str bo_str (pa_cons (pe_ix ix_list (pe_ix ix_tup (pv 1) pe_int (fun _ _ => rfl)) (pv 3) (fun _ _ => rfl)) pa_nil))) pe_str) (pe_callTy call_str_int (by rfl) mn_str bo_str (pa_cons (pe_ix ix_list (pe_ix ix_tup (pv 1) pe_int (fun _ _ => rfl)) (pe_op op_add (pv 3) pe_int) (fun _ _ => rfl)) pa_nil))))))
    (pss_cons (ps_set (i := 2) hnd rfl (by first | exact Or.inl rfl | exact Or.inr rfl) (pe_def D_law_turned hr pass1 (pa_cons (pv 2) (pa_cons (pe_op op_mod (pe_def D_law_draw hr pass1 (pa_cons (pv 0) (pa_cons pe_int pa_nil))) pe_int) (pa_cons (pe_def D_law_draw hr pass1 (pa_cons (pv 0) (pa_cons pe_int pa_nil))) pa_nil)))))
    (pss_cons (ps_set (i := 4) hnd rfl (by first | exact Or.inl rfl | exact Or.inr rfl) (pe_def D_law_due hr pass1 (pa_cons (pv 2) pa_nil)))
    (pss_cons (ps_for hpo rfl (pi_range1 (by rfl) mn_range (pa_cons pe_int pa_nil)) (pg_name (i := 5) hnd rfl (by first | exact Or.inl rfl | exact Or.inr rfl)) (pss_cons (ps_set (i := 6) hnd rfl (by first | exact Or.inl rfl | exact Or.inr rfl) (pe_def D_law_told hr pass1 (pa_cons (pv 2) pa_nil)))
      (pss_cons (ps_if (PW.pt (pw_and (pt_cmpR op_isN (pv 4) pe_non (nomark _)) (pw_and1 (pt_cmpR op_ne (pe_def D_law_alone hr pass1 (pa_cons (pv 6) pa_nil)) pe_int (nomark _))))) (pss_one (ps_ret pe_bl)) pss_nil)
      (pss_cons (ps_if (PW.pt (pw_and (pt_cmpR op_notN (pv 4) pe_non (nomark _)) (pw_and1 (pt_not (pt_val (pe_callB call_isi (by rfl) mn_isinstance bo_isinstance (pa_cons (pv 6) (pa_cons (pe_cl hm_Tree) pa_nil)))))))) (pss_one (ps_ret pe_bl)) pss_nil)
      (pss_one (ps_if (PW.pt (pw_and (pt_cmpR op_notN (pv 4) pe_non (nomark _)) (pw_and1 (PW.pt (pw_or (pt_cmpR (op_neL hu) (pe_me0 (pv 6) Melders hr pass1) (pe_ix ix_tup (pv 4) pe_int (fun _ _ => rfl)) (nomark _)) (pw_or1 (pt_cmpR (op_neL hu) (pe_me0 (pv 6) Mworths hr pass1) (pe_ix ix_tup (pv 4) pe_int (fun _ _ => rfl)) (nomark _)))))))) (pss_one (ps_ret pe_bl)) pss_nil))))))
    (pss_one (ps_ret pe_bl)))))))), ?_⟩
  -- plot
  refine ⟨_, rfl, a, ns, 14, rfl, hS, by decide, by decide, fun r e u es ws H1 fr fe fu neu s1 hr1 he1 hu1 G _ => ?_⟩
  have hlen := G.len
  have hmost := G.most
  have w0 : atI (nats ws) ((0 : Nat) : Int) = some (.int (ws.getD 0 0 : Nat)) := nats_at (i := 0) (by omega)
  have l0 := (num_len (w_le G (k := 0))).2
  refine ⟨_, rfl, r, _, _, _, rfl, rfl, SqT.of hr1, rfl, u, _, _, _, rfl, rfl, SqL.of hu1, w0, _, rfl, small_log (w_le G), _, _, rfl, rfl, small (by show 2 + (num (ws.getD 0 0)).length ≤ _; omega), ?_⟩
  have e0 : Str.ofString "-:" ++ Str.ofString (toString ((ws.getD 0 0 : Nat) : Int)) = textTo es ws 1 := by
    rw [textTo_one]
    show Str.ofString "-:" ++ num (ws.getD 0 0) = dash ++ col ++ num (ws.getD 0 0)
    rw [show Str.ofString "-:" = dash ++ col by decide +kernel]
  rw [show (V.str (Str.ofString "-:" ++ Str.ofString (toString ((ws.getD 0 0 : Nat) : Int)))) = .str (textTo es ws 1) from congrArg V.str e0]
  refine ⟨_, rfl, r, _, _, _, rfl, rfl, SqT.of hr1, rfl, e, _, rfl, .inl (SqL.of he1), ?_⟩
  refine ⟨es.length, (by rw [nats_length]), by omega, by omega, for_range (n := es.length) (fun i σ H2 => ∃ kv, σ = [some (.ref a), some (.ref r), some (.str (textTo es ws (i + 1))), kv, none, none, none] ∧ H2 = H1) ⟨none, rfl, rfl⟩ ?_ ?_⟩
  · rintro i σ H2 hi ⟨kv, rfl, rfl⟩
    have ei : atI (nats es) ((i : Nat) : Int) = some (.int (es.getD i 0 : Nat)) := nats_at hi
    have wi : atI (nats ws) ((i + 1 : Nat) : Int) = some (.int (ws.getD (i + 1) 0 : Nat)) := nats_at (by omega)
    have t1 := textTo_len G i
    have t2 := (num_len (e_le G (k := i))).2
    have t3 := (num_len (w_le G (k := i + 1))).2
    have e1 : (0 : Int) + (i : Nat) = ((i : Nat) : Int) := by omega
    have e2 : (0 : Int) + (i : Nat) + 1 = ((i + 1 : Nat) : Int) := by omega
    have z1 : (textTo es ws (i + 1) ++ sep).length = (textTo es ws (i + 1)).length + 1 := by rw [Str.length_append]; rfl
    have z2 : (textTo es ws (i + 1) ++ sep ++ num (es.getD i 0)).length = (textTo es ws (i + 1)).length + 1 + (num (es.getD i 0)).length := by rw [Str.length_append, z1]
    have z3 : (textTo es ws (i + 1) ++ sep ++ num (es.getD i 0) ++ col).length = (textTo es ws (i + 1)).length + 1 + (num (es.getD i 0)).length + 1 := by rw [Str.length_append, z2]; rfl
    refine ⟨_, rfl, _, _, rfl, rfl, small (show (textTo es ws (i + 1)).length + 1 ≤ _ by omega), ?_⟩
    refine ⟨_, rfl, r, _, _, _, rfl, rfl, SqT.of hr1, rfl, _, rfl, e, _, _, _, rfl, rfl, SqL.of he1, (by rw [e1]; exact ei), _, rfl, small_log (e_le G), _, _, rfl, rfl, small (show (textTo es ws (i + 1) ++ sep).length + (num (es.getD i 0)).length ≤ _ by omega), ?_⟩
    refine ⟨_, _, rfl, rfl, small (show (textTo es ws (i + 1) ++ sep ++ num (es.getD i 0)).length + 1 ≤ _ by omega), ?_⟩
    refine ⟨_, rfl, r, _, _, _, rfl, rfl, SqT.of hr1, rfl, _, rfl, _, _, rfl, rfl, u, _, _, _, rfl, rfl, SqL.of hu1, (by rw [e2]; exact wi), _, rfl, small_log (w_le G), _, _, rfl, rfl, small (show (textTo es ws (i + 1) ++ sep ++ num (es.getD i 0) ++ col).length + (num (ws.getD (i + 1) 0)).length ≤ _ by omega), ?_⟩
    refine ⟨some (.int (0 + (i : Int))), ?_, rfl⟩
    rw [← due_more]
    rfl
  · rintro σ H2 ⟨kv, rfl, rfl⟩
    rw [textTo_all]
    have tl := textTo_len G es.length
    rw [textTo_all] at tl
    refine ⟨_, rfl, _, rfl, a, ns, 91, rfl, s1.seq hS, by decide, by decide, fun d d0 d1 => ?_⟩
    refine ⟨_, _, rfl, rfl, (by show (0 : Int) < 9; decide), ?_⟩
    refine ⟨_, rfl, a, ns, 92, rfl, s1.seq hS, by decide, by decide, fun c c0 c1 => ?_⟩
    refine ⟨_, _, _, rfl, asc_text G, by omega, c0, fun t H3 ha hn s3 => ?_⟩
    refine ⟨_, rfl, t, rfl, ha, hn, fun R rr e2 u2 H4 s4 kr ke ku => ?_, fun R H4 s4 => ?_⟩
    · -- a tree is due
      refine ⟨2, rfl, by decide, by decide, for_range (n := 2) (fun i σ H5 => ∃ tv fv, σ = [some (.ref a), some (.ref r), some (.str t), kv, some (.ref rr), tv, fv] ∧ Same H4 H5) ⟨none, none, rfl, Same.refl _⟩ ?_ ?_⟩
      · rintro i σ H5 hi ⟨tv, fv, rfl, s5⟩
        refine ⟨_, rfl, t, rfl, ha, hn, fun R x H6 s6 I6 => ?_, fun n => absurd R n⟩
        have s46 := s5.trans s6
        have kr6 := s46 _ _ kr
        obtain ⟨dx, pe, pw, hx, hpe, hpw⟩ := id I6
        have no : ¬ V.ref rr = V.non := fun zz => nomatch zz
        refine ⟨_, rfl, rfl, _, rfl, ite2 (fun c => absurd (of_decide_eq_true c) no) (fun _ => iteF ?_)⟩
        refine ⟨_, rfl, rfl, _, rfl, ite2 (fun _ => ?_) (fun c => absurd (by rw [decide_eq_false no]; rfl) c)⟩
        refine ⟨_, rfl, _, _, _, _, true, rfl, rfl, TyOf.ins hx cl O.ha O.hn O.htk O.hm, O.kk, _, rfl, iteF ?_⟩
        refine ⟨_, rfl, rfl, _, rfl, ite2 (fun _ => ?_) (fun c => absurd (by rw [decide_eq_false no]; rfl) c)⟩
        refine ⟨_, rfl, x, dx, _, rfl, hx, row_no _ _ (by decide +kernel) (by decide +kernel), x, _, _, rfl, I6, fun l3 n3 => ?_⟩
        have s7 := same_new n3 (.lst (nats (esOf t)))
        have s47 := s46.trans s7
        refine ⟨_, rfl, rr, _, _, _, rfl, rfl, SqT.of (s47 _ _ kr), rfl, ?_⟩
        refine ⟨l3, e2, _, _, rfl, rfl, SqL.of upd_same, SqL.of (s47 _ _ ke), .inr ⟨rfl, fun _ => true, deq_each _, ?_⟩⟩
        rw [all_t]
        refine ⟨_, rfl, iteF ?_⟩
        refine ⟨_, rfl, x, dx, _, rfl, s7 _ _ hx, row_no _ _ (by decide +kernel) (by decide +kernel), x, _, _, rfl, I6.same s7, fun l4 n4 => ?_⟩
        have s8 := same_new n4 (.lst (nats (wsOf t)))
        have s48 := s47.trans s8
        refine ⟨_, rfl, rr, _, _, _, rfl, rfl, SqT.of (s48 _ _ kr), rfl, ?_⟩
        refine ⟨l4, u2, _, _, rfl, rfl, SqL.of upd_same, SqL.of (s48 _ _ ku), .inr ⟨rfl, fun _ => true, deq_each _, ?_⟩⟩
        rw [all_t]
        refine ⟨_, rfl, iteF ?_⟩
        exact ⟨_, _, rfl, s48⟩
      · rintro σ H5 ⟨tv, fv, rfl, s5⟩
        exact q _
    · -- nothing is due
      refine ⟨2, rfl, by decide, by decide, for_range (n := 2) (fun i σ H5 => ∃ tv fv, σ = [some (.ref a), some (.ref r), some (.str t), kv, some .non, tv, fv] ∧ Same H4 H5) ⟨none, none, rfl, Same.refl _⟩ ?_ ?_⟩
      · rintro i σ H5 hi ⟨tv, fv, rfl, s5⟩
        refine ⟨_, rfl, t, rfl, ha, hn, fun R2 => absurd R2 R, fun n ea H6 s6 kea => ?_⟩
        have s46 := s5.trans s6
        refine ⟨_, rfl, rfl, _, rfl, ite2 (fun _ => ?_) (fun c => absurd (by decide) c)⟩
        refine ⟨_, rfl, ea, rfl, kea, fun H7 s7 => ?_⟩
        have s47 := s46.trans s7
        refine ⟨rfl, _, rfl, iteNS rfl ?_⟩
        refine ⟨_, rfl, rfl, _, rfl, ite2 (fun c => absurd c (by decide)) (fun _ => iteF ?_)⟩
        refine ⟨_, rfl, rfl, _, rfl, ite2 (fun c => absurd c (by decide)) (fun _ => iteF ?_)⟩
        exact ⟨_, _, rfl, s47⟩
      · rintro σ H5 ⟨tv, fv, rfl, s5⟩
        exact q _
end
end FT
set_option Elab.async false
set_option maxHeartbeats 4000000
set_option maxRecDepth 20000
namespace FT
open PySem L2 TM TX
abbrev s_turned : Stmt := (top 27)
/-- how much a list of words writes -/
def Mw (ts : List Str) : Nat := (ts.map (·.length)).sum + ts.length
theorem Mw_app (a b : List Str) : Mw (a ++ b) = Mw a + Mw b := by unfold Mw; rw [List.map_append, List.sum_append, List.length_append]; omega
theorem Mw_take (n : Nat) (l : List Str) : Mw (l.take n) ≤ Mw l := by
  have := Mw_app (l.take n) (l.drop n)
  rw [List.take_append_drop] at this
  omega
theorem Mw_drop (n : Nat) (l : List Str) : Mw (l.drop n) ≤ Mw l := by
  have := Mw_app (l.take n) (l.drop n)
  rw [List.take_append_drop] at this
  omega
def cutS (ts : List Str) (lo hi : Option Int) : List Str := (ts.drop (HT.sIx ts.length 0 lo)).take (HT.sIx ts.length ts.length hi - HT.sIx ts.length 0 lo)
theorem cutS_V (ts : List Str) (lo hi : Option Int) : cutV (ts.map V.str) lo hi = (cutS ts lo hi).map V.str := by
  unfold cutV cutS
  rw [List.length_map, List.map_take, List.map_drop]
theorem cutS_M (ts : List Str) (lo hi : Option Int) : Mw (cutS ts lo hi) ≤ Mw ts := Nat.le_trans (Mw_take _ _) (Mw_drop _ _)
theorem cutS_mem {ts : List Str} {lo hi : Option Int} {x : Str} (h : x ∈ cutS ts lo hi) : x ∈ ts := List.mem_of_mem_drop (List.mem_of_mem_take h)
def AscL (ts : List Str) : Prop := ∀ x ∈ ts, Asc x
theorem AscL.cut {ts : List Str} (h : AscL ts) (lo hi : Option Int) : AscL (cutS ts lo hi) := fun x hx => h x (cutS_mem hx)
theorem AscL.app {a b : List Str} (h : AscL a) (g : AscL b) : AscL (a ++ b) := fun x hx => by
  rcases List.mem_append.mp hx with hx | hx
  · exact h x hx
  · exact g x hx
theorem Asc.app {a b : Str} (h : Asc a) (g : Asc b) : Asc (a ++ b) := fun c hc => by
  rw [sg_app, List.mem_append] at hc
  rcases hc with hc | hc
  · exact h c hc
  · exact g c hc
theorem Asc.cut {a : Str} (h : Asc a) (lo hi : Option Int) : Asc (Txt.slice a lo hi) := fun c hc => h c (slice_mem hc)
section
variable {P : Program} {w : World} {K : PySem.W.Frag} {mg : Str → Option Value} {base : Heap} {f : Addr}
theorem sc_turned : FnScope ["text", "way", "cell", "at", "sign", "words", "spot", "ahead"] ["text", "way", "cell"] (defScope s_turned) := ⟨rfl, rfl, rfl, by decide +kernel, rfl, by decide +kernel, by decide +kernel⟩
/-- the body's reading: told once, it is long -/
noncomputable def tmTurned (mn_len : mg "len" = none) (cdv : Value) (A : Around) (outer : List Env) (s : Shared) (H : Hp) (E : XK) :
    { t : TS // PSs (cxOf CX0 P w K mg base ["text", "way", "cell", "at", "sign", "words", "spot", "ahead"] "_law_turned" (defScope s_turned) f cdv A outer s H E) (defBody s_turned) t } :=
  have hnd := sc_turned.nd
  ⟨_, (pss_cons (ps_set (i := 3) hnd rfl (by first | exact Or.inl rfl | exact Or.inr rfl) (pe_op op_mod (pv 2) (pe_op op_add (pe_callB call_len_str (by rfl) mn_len PySem.boot_len (pa_cons (pv 0) pa_nil)) pe_int)))
    (pss_cons (ps_set (i := 4) hnd rfl (by first | exact Or.inl rfl | exact Or.inr rfl) (pe_ix ix_str pe_str (pe_op op_mod (pe_op op_fdiv (pv 2) pe_int) pe_int) (fun _ _ => rfl)))
    (pss_cons (ps_if (pt_cmpR op_eq (pv 1) pe_int (nomark _)) (pss_one (ps_ret (pe_op op_add_str (pe_op op_add_str (pe_slice sl_str (pv 0) po_none (po_some (pv 3))) (pv 4)) (pe_slice sl_str (pv 0) (po_some (pv 3)) po_none)))) pss_nil)
    (pss_cons (ps_if (pt_cmpR op_eq (pv 1) pe_int (nomark _)) (pss_one (ps_ret (pe_op op_add_str (pe_op op_add_str (pe_slice sl_str (pv 0) po_none (po_some (pv 3))) (pv 4)) (pe_slice sl_str (pv 0) (po_some (pe_op op_add (pv 3) pe_int)) po_none)))) pss_nil)
    (pss_cons (ps_if (pt_cmpR op_eq (pv 1) pe_int (nomark _)) (pss_one (ps_ret (pe_op op_add_str (pe_slice sl_str (pv 0) po_none (po_some (pv 3))) (pe_slice sl_str (pv 0) (po_some (pe_op op_add (pv 3) pe_int)) po_none)))) pss_nil)
    (pss_cons (ps_set (i := 5) hnd rfl (by first | exact Or.inl rfl | exact Or.inr rfl) (pe_bm PySem.F.plainAttrs_str PySem.F.slot_str_split PySem.F.type_str_split mt_split (pv 0) (pa_cons pe_str pa_nil)))
    (pss_cons (ps_set (i := 6) hnd rfl (by first | exact Or.inl rfl | exact Or.inr rfl) (pe_op op_mod (pe_op op_fdiv (pv 2) pe_int) (pe_callB call_len_seq (by rfl) mn_len PySem.boot_len (pa_cons (pv 5) pa_nil))))
    (pss_cons (ps_if (pt_cmpR op_eq (pv 1) pe_int (nomark _)) (pss_one (ps_set (i := 5) hnd rfl (by first | exact Or.inl rfl | exact Or.inr rfl) (pe_op op_cat (pe_slice sl_list (pv 5) po_none (po_some (pv 6))) (pe_slice sl_list (pv 5) (po_some (pe_op op_add (pv 6) pe_int)) po_none)))) pss_nil)
    (pss_cons (ps_if (pt_cmpR op_eq (pv 1) pe_int (nomark _)) (pss_one (ps_set (i := 5) hnd rfl (by first | exact Or.inl rfl | exact Or.inr rfl) (pe_op op_cat (pe_slice sl_list (pv 5) po_none (po_some (pe_op op_add (pv 6) pe_int))) (pe_slice sl_list (pv 5) (po_some (pv 6)) po_none)))) pss_nil)
    (pss_cons (ps_if (pt_cmpR op_eq (pv 1) pe_int (nomark _)) (pss_cons (ps_set (i := 7) hnd rfl (by first | exact Or.inl rfl | exact Or.inr rfl) (pe_op op_cat (pe_slice sl_list (pv 5) po_none (po_some (pv 6))) (pe_slice sl_list (pv 5) (po_some (pe_op op_add (pv 6) pe_int)) (po_some (pe_op op_add (pv 6) pe_int)))))
      (pss_one (ps_set (i := 5) hnd rfl (by first | exact Or.inl rfl | exact Or.inr rfl) (pe_op op_cat (pe_op op_cat (pv 7) (pe_slice sl_list (pv 5) (po_some (pv 6)) (po_some (pe_op op_add (pv 6) pe_int)))) (pe_slice sl_list (pv 5) (po_some (pe_op op_add (pv 6) pe_int)) po_none))))) pss_nil)
    (pss_cons (ps_if (pt_cmpR op_eq (pv 1) pe_int (nomark _)) (pss_one (ps_ret (pe_ix ix_list (pe_lst (pa_txts (by rfl))) (pe_op op_mod (pv 2) pe_int) (fun _ _ => rfl)))) pss_nil)
    (pss_one (ps_ret (pe_bm PySem.F.plainAttrs_str PySem.F.slot_str_join PySem.F.type_str_join mt_join pe_str (pa_cons (pv 5) pa_nil)))))))))))))))⟩
end
end FT
set_option Elab.async false
set_option maxHeartbeats 4000000
set_option maxRecDepth 20000
namespace FT
open PySem L2 TM TX
/-- one of ten texts -/
theorem ret_txt {es : List Expr} (h10 : (txtsOf es).length = 10) (hA : ((txtsOf es).all fun y => (sg y).all (fun c => decide (c < 128)) && decide (y.length ≤ 900)) = true) {k : Int} (h0 : 0 ≤ k) (h1 : k < 10) {KK : PySem.W.Frag} {H : Hp} {l : Addr} {Q : VK}
    (q : ∀ y, Asc y → y.length ≤ 900 → Q (.str y) (upd H l (.lst ((txtsOf es).map V.str)))) : ∃ p xs i v, V.ref l = .ref p ∧ V.int k = .int i ∧ SqL KK (upd H l (.lst ((txtsOf es).map V.str))) p xs ∧ atI xs i = some v ∧ Q v (upd H l (.lst ((txtsOf es).map V.str))) := by
  have hk : k.toNat < (txtsOf es).length := by rw [h10]; omega
  have ek : k = ((k.toNat : Nat) : Int) := by omega
  have g := List.all_eq_true.mp hA _ (List.getElem_mem hk)
  rw [Bool.and_eq_true, decide_eq_true_eq] at g
  have at1 : atI ((txtsOf es).map V.str) ((k.toNat : Nat) : Int) = some (.str (txtsOf es)[k.toNat]) := atI_nat (by rw [List.getElem?_map, List.getElem?_eq_getElem hk]; rfl)
  rw [← ek] at at1
  refine ⟨l, _, k, _, rfl, rfl, SqL.of upd_same, at1, q _ (fun c hc => ?_) g.2⟩
  have := List.all_eq_true.mp g.1 c hc
  simpa using this
section
variable {P : Program} {w : World} {K : PySem.W.Frag} {mg : Str → Option Value} {base : Heap} {f C CB CT : Addr} {fd : FuncData}
theorem ok_turned (F : Fun K "_law_turned" "_law_turned" s_turned f fd) (N : Nm mg) : FnOk P w K mg base CX0 1 f fd ["text", "way", "cell"] spTurnedL := by
  refine F.okX (CX := CX0) sc_turned (fun vs H Q E h => ?_) (fun cdv A outer s H vs Q E hr h => ?_)
  · obtain ⟨t, way, cell, rfl, _⟩ := h
    rfl
  obtain ⟨t, way, cell, rfl, ha, hn, hc0, q⟩ := h
  refine ⟨_, (tmTurned (P := P) (w := w) (K := K) (base := base) (f := f) N.len cdv A outer s H E).2, ?_⟩
  have sl : t.length ≤ sizeLine := small (by omega)
  unfold tmTurned
  refine ⟨_, rfl, _, rfl, _, rfl, sl, _, _, rfl, rfl, _, _, rfl, rfl, (by show (0 : Int) < (t.length : Nat) + 1; omega), ?_⟩
  have signs : (Str.ofString "0123456789 -:+_\n\t").length = 17 := by decide +kernel
  have ascS : ∀ c ∈ sg (Str.ofString "0123456789 -:+_\n\t"), c < 128 := by decide +kernel
  have hk0 : 0 ≤ cell / 1009 % 17 := Int.emod_nonneg _ (by decide)
  have hk1 : cell / 1009 % 17 < 17 := Int.emod_lt_of_pos _ (by decide)
  obtain ⟨c, hat⟩ : ∃ c, atI (Str.ofString "0123456789 -:+_\n\t").cps.toList (cell / 1009 % 17) = some c := by
    have hz : (cell / 1009 % 17).toNat < (Str.ofString "0123456789 -:+_\n\t").cps.toList.length := by rw [show (Str.ofString "0123456789 -:+_\n\t").cps.toList.length = 17 by decide +kernel]; omega
    have e : cell / 1009 % 17 = (((cell / 1009 % 17).toNat : Nat) : Int) := by omega
    rw [e]
    exact ⟨_, atI_nat (List.getElem?_eq_getElem hz)⟩
  refine ⟨_, rfl, _, _, rfl, rfl, ⟨by decide, by decide⟩, _, _, rfl, rfl, (by show (0 : Int) < 17; decide), _, _, _, rfl, rfl, small (by rw [signs]; decide), hat, ?_⟩
  have cs : c < 128 := by
    refine ascS c ?_
    have e : cell / 1009 % 17 = (((cell / 1009 % 17).toNat : Nat) : Int) := by omega
    have hz : (cell / 1009 % 17).toNat < (Str.ofString "0123456789 -:+_\n\t").cps.toList.length := by rw [show (Str.ofString "0123456789 -:+_\n\t").cps.toList.length = 17 by decide +kernel]; omega
    have h2 := hat
    rw [e, atI_nat (List.getElem?_eq_getElem hz)] at h2
    rw [← Option.some.inj h2]
    exact List.getElem_mem hz
  have aS : Asc ⟨#[c]⟩ := fun b hb => by
    have : b = c := by simpa using hb
    rw [this]; exact cs
  have lS : (⟨#[c]⟩ : Str).length = 1 := rfl
  have sle : ∀ lo hi, (Txt.slice t lo hi).length ≤ 200 := fun lo hi => Nat.le_trans (Txt.slice_le t lo hi) hn
  refine ⟨_, rfl, rfl, _, rfl, ite2 (fun _ => ?_) (fun n1 => ?_)⟩
  · refine ⟨_, rfl, _, rfl, _, rfl, t, rfl, sl, _, rfl, _, _, rfl, rfl, ?_, _, rfl, _, rfl, _, rfl, t, rfl, sl, _, _, rfl, rfl, ?_, ?_⟩
    · have := sle none (some (cell % ((t.length : Nat) + 1)))
      exact small (by rw [lS]; omega)
    · have h1 := sle none (some (cell % ((t.length : Nat) + 1)))
      have h2 := sle (some (cell % ((t.length : Nat) + 1))) none
      exact small (by rw [Str.length_append, lS]; omega)
    · have h1 := sle none (some (cell % ((t.length : Nat) + 1)))
      have h2 := sle (some (cell % ((t.length : Nat) + 1))) none
      exact q _ H (Asc.app (Asc.app (Asc.cut ha _ _) aS) (Asc.cut ha _ _)) (by rw [Str.length_append, Str.length_append, lS]; omega) (Same.refl H)
  refine ⟨_, rfl, rfl, _, rfl, ite2 (fun _ => ?_) (fun n2 => ?_)⟩
  · refine ⟨_, rfl, _, rfl, _, rfl, t, rfl, sl, _, rfl, _, _, rfl, rfl, ?_, _, rfl, _, rfl, _, _, rfl, rfl, _, rfl, t, rfl, sl, _, _, rfl, rfl, ?_, ?_⟩
    · have := sle none (some (cell % ((t.length : Nat) + 1)))
      exact small (by rw [lS]; omega)
    · have h1 := sle none (some (cell % ((t.length : Nat) + 1)))
      have h2 := sle (some (cell % ((t.length : Nat) + 1) + 1)) none
      exact small (by rw [Str.length_append, lS]; omega)
    · have h1 := sle none (some (cell % ((t.length : Nat) + 1)))
      have h2 := sle (some (cell % ((t.length : Nat) + 1) + 1)) none
      exact q _ H (Asc.app (Asc.app (Asc.cut ha _ _) aS) (Asc.cut ha _ _)) (by rw [Str.length_append, Str.length_append, lS]; omega) (Same.refl H)
  refine ⟨_, rfl, rfl, _, rfl, ite2 (fun _ => ?_) (fun n3 => ?_)⟩
  · refine ⟨_, rfl, _, rfl, _, rfl, t, rfl, sl, _, rfl, _, rfl, _, _, rfl, rfl, _, rfl, t, rfl, sl, _, _, rfl, rfl, ?_, ?_⟩
    · have h1 := sle none (some (cell % ((t.length : Nat) + 1)))
      have h2 := sle (some (cell % ((t.length : Nat) + 1) + 1)) none
      exact small (by omega)
    · have h1 := sle none (some (cell % ((t.length : Nat) + 1)))
      have h2 := sle (some (cell % ((t.length : Nat) + 1) + 1)) none
      exact q _ H (Asc.app (Asc.cut ha _ _) (Asc.cut ha _ _)) (by rw [Str.length_append]; omega) (Same.refl H)
  refine ⟨_, rfl, rfl, _, _, rfl, rfl, by decide +kernel, small (by omega), fun p np => ?_⟩
  have k1 : upd H p (.lst ((Txt.split t (Str.ofString " ")).map V.str)) p = some (.lst ((wordsOf8 t).map V.str)) := upd_same
  have s1 := same_new np (.lst ((Txt.split t (Str.ofString " ")).map V.str))
  generalize upd H p (.lst ((Txt.split t (Str.ofString " ")).map V.str)) = H1 at k1 s1 ⊢
  have hsep : sep = ⟨#[32]⟩ := sep_is
  have hpos : 0 < (wordsOf8 t).length := List.length_pos_iff.mpr (by unfold wordsOf8; rw [hsep]; exact split_ne)
  have aW : AscL (wordsOf8 t) := fun x hx => by unfold wordsOf8 at hx; rw [hsep] at hx; exact TX.Asc.split ha hx
  have mW : Mw (wordsOf8 t) ≤ 201 := by
    have := split_sum (c := 32) t
    unfold Mw wordsOf8
    rw [hsep]
    omega
  refine ⟨_, rfl, _, _, rfl, rfl, ⟨by decide, by decide⟩, _, rfl, p, _, rfl, .inl (SqL.of k1), _, _, rfl, rfl, (by show (0 : Int) < (((wordsOf8 t).map V.str).length : Nat); rw [List.length_map]; omega), ?_⟩
  have lenM : ∀ ts : List Str, (ts.map V.str).length ≤ Mw ts := fun ts => by unfold Mw; rw [List.length_map]; omega
  refine ⟨_, rfl, rfl, _, rfl, ite2 (fun c4 => ?w4) (fun n4 => ?r4)⟩
  case' r4 =>
    refine ⟨_, rfl, rfl, _, rfl, ite2 (fun c5 => ?w5) (fun n5 => ?r5)⟩
  case' r5 =>
    refine ⟨_, rfl, rfl, _, rfl, ite2 (fun c6 => ?w6) (fun n6 => ?r6)⟩
  case' w4 =>
    have hw : way = 4 := V.int.inj (of_decide_eq_true c4)
    refine ⟨_, rfl, _, rfl, _, rfl, p, _, rfl, SqL.of k1, fun g1 m1 => ?_⟩
    rw [cutS_V]
    have u1 := same_new m1 (.lst ((cutS (wordsOf8 t) none (some (cell / 14 % ((((wordsOf8 t).map V.str).length : Nat) : Int)))).map V.str))
    have x1 := upd_same (H := H1) (a := g1) (o := .lst ((cutS (wordsOf8 t) none (some (cell / 14 % ((((wordsOf8 t).map V.str).length : Nat) : Int)))).map V.str))
    generalize upd H1 g1 (.lst ((cutS (wordsOf8 t) none (some (cell / 14 % ((((wordsOf8 t).map V.str).length : Nat) : Int)))).map V.str)) = J1 at u1 x1 ⊢
    refine ⟨_, rfl, _, rfl, _, _, rfl, rfl, _, rfl, p, _, rfl, SqL.of (u1 _ _ k1), fun g2 m2 => ?_⟩
    rw [cutS_V]
    have u2 := same_new m2 (.lst ((cutS (wordsOf8 t) (some ((cell / 14 % ((((wordsOf8 t).map V.str).length : Nat) : Int)) + 1)) none).map V.str))
    have x2 := upd_same (H := J1) (a := g2) (o := .lst ((cutS (wordsOf8 t) (some ((cell / 14 % ((((wordsOf8 t).map V.str).length : Nat) : Int)) + 1)) none).map V.str))
    generalize upd J1 g2 (.lst ((cutS (wordsOf8 t) (some ((cell / 14 % ((((wordsOf8 t).map V.str).length : Nat) : Int)) + 1)) none).map V.str)) = J2 at u2 x2 ⊢
    refine ⟨g1, g2, _, _, rfl, rfl, u2 _ _ x1, x2, small (by have h1 := lenM (cutS (wordsOf8 t) none (some (cell / 14 % ((((wordsOf8 t).map V.str).length : Nat) : Int)))); have h2 := lenM (cutS (wordsOf8 t) (some ((cell / 14 % ((((wordsOf8 t).map V.str).length : Nat) : Int)) + 1)) none); have h3 := cutS_M (wordsOf8 t) none (some (cell / 14 % ((((wordsOf8 t).map V.str).length : Nat) : Int))); have h4 := cutS_M (wordsOf8 t) (some ((cell / 14 % ((((wordsOf8 t).map V.str).length : Nat) : Int)) + 1)) none; omega), fun wl nwl => ?_⟩
    have kwl : upd J2 wl (.lst ((cutS (wordsOf8 t) none (some (cell / 14 % ((((wordsOf8 t).map V.str).length : Nat) : Int)))).map V.str ++ (cutS (wordsOf8 t) (some ((cell / 14 % ((((wordsOf8 t).map V.str).length : Nat) : Int)) + 1)) none).map V.str)) wl = some (.lst (((cutS (wordsOf8 t) none (some (cell / 14 % ((((wordsOf8 t).map V.str).length : Nat) : Int)))) ++ (cutS (wordsOf8 t) (some ((cell / 14 % ((((wordsOf8 t).map V.str).length : Nat) : Int)) + 1)) none)).map V.str)) := by rw [upd_same]; simp only [List.map_append]
    have sH : Same H (upd J2 wl (.lst ((cutS (wordsOf8 t) none (some (cell / 14 % ((((wordsOf8 t).map V.str).length : Nat) : Int)))).map V.str ++ (cutS (wordsOf8 t) (some ((cell / 14 % ((((wordsOf8 t).map V.str).length : Nat) : Int)) + 1)) none).map V.str))) := (s1.trans (u1.trans u2)).trans (same_new nwl _)
    generalize upd J2 wl (.lst ((cutS (wordsOf8 t) none (some (cell / 14 % ((((wordsOf8 t).map V.str).length : Nat) : Int)))).map V.str ++ (cutS (wordsOf8 t) (some ((cell / 14 % ((((wordsOf8 t).map V.str).length : Nat) : Int)) + 1)) none).map V.str)) = HH at kwl sH ⊢
    have T : ∃ ts : List Str, HH wl = some (.lst (ts.map V.str)) ∧ AscL ts ∧ Mw ts ≤ 804 := ⟨_, kwl, (aW.cut _ _).app (aW.cut _ _), by rw [Mw_app]; have h3 := cutS_M (wordsOf8 t) none (some (cell / 14 % ((((wordsOf8 t).map V.str).length : Nat) : Int))); have h4 := cutS_M (wordsOf8 t) (some ((cell / 14 % ((((wordsOf8 t).map V.str).length : Nat) : Int)) + 1)) none; omega⟩
    refine ⟨_, rfl, rfl, _, rfl, ite2 (fun cc => absurd (V.int.inj (of_decide_eq_true cc)) (by omega)) (fun _ => ?_)⟩
    refine ⟨_, rfl, rfl, _, rfl, ite2 (fun cc => absurd (V.int.inj (of_decide_eq_true cc)) (by omega)) (fun _ => ?_)⟩
  case' w5 =>
    have hw : way = 5 := V.int.inj (of_decide_eq_true c5)
    refine ⟨_, rfl, _, rfl, _, _, rfl, rfl, _, rfl, p, _, rfl, SqL.of k1, fun g1 m1 => ?_⟩
    rw [cutS_V]
    have u1 := same_new m1 (.lst ((cutS (wordsOf8 t) none (some ((cell / 14 % ((((wordsOf8 t).map V.str).length : Nat) : Int)) + 1))).map V.str))
    have x1 := upd_same (H := H1) (a := g1) (o := .lst ((cutS (wordsOf8 t) none (some ((cell / 14 % ((((wordsOf8 t).map V.str).length : Nat) : Int)) + 1))).map V.str))
    generalize upd H1 g1 (.lst ((cutS (wordsOf8 t) none (some ((cell / 14 % ((((wordsOf8 t).map V.str).length : Nat) : Int)) + 1))).map V.str)) = J1 at u1 x1 ⊢
    refine ⟨_, rfl, _, rfl, _, rfl, p, _, rfl, SqL.of (u1 _ _ k1), fun g2 m2 => ?_⟩
    rw [cutS_V]
    have u2 := same_new m2 (.lst ((cutS (wordsOf8 t) (some (cell / 14 % ((((wordsOf8 t).map V.str).length : Nat) : Int))) none).map V.str))
    have x2 := upd_same (H := J1) (a := g2) (o := .lst ((cutS (wordsOf8 t) (some (cell / 14 % ((((wordsOf8 t).map V.str).length : Nat) : Int))) none).map V.str))
    generalize upd J1 g2 (.lst ((cutS (wordsOf8 t) (some (cell / 14 % ((((wordsOf8 t).map V.str).length : Nat) : Int))) none).map V.str)) = J2 at u2 x2 ⊢
    refine ⟨g1, g2, _, _, rfl, rfl, u2 _ _ x1, x2, small (by have h1 := lenM (cutS (wordsOf8 t) none (some ((cell / 14 % ((((wordsOf8 t).map V.str).length : Nat) : Int)) + 1))); have h2 := lenM (cutS (wordsOf8 t) (some (cell / 14 % ((((wordsOf8 t).map V.str).length : Nat) : Int))) none); have h3 := cutS_M (wordsOf8 t) none (some ((cell / 14 % ((((wordsOf8 t).map V.str).length : Nat) : Int)) + 1)); have h4 := cutS_M (wordsOf8 t) (some (cell / 14 % ((((wordsOf8 t).map V.str).length : Nat) : Int))) none; omega), fun wl nwl => ?_⟩
    have kwl : upd J2 wl (.lst ((cutS (wordsOf8 t) none (some ((cell / 14 % ((((wordsOf8 t).map V.str).length : Nat) : Int)) + 1))).map V.str ++ (cutS (wordsOf8 t) (some (cell / 14 % ((((wordsOf8 t).map V.str).length : Nat) : Int))) none).map V.str)) wl = some (.lst (((cutS (wordsOf8 t) none (some ((cell / 14 % ((((wordsOf8 t).map V.str).length : Nat) : Int)) + 1))) ++ (cutS (wordsOf8 t) (some (cell / 14 % ((((wordsOf8 t).map V.str).length : Nat) : Int))) none)).map V.str)) := by rw [upd_same]; simp only [List.map_append]
    have sH : Same H (upd J2 wl (.lst ((cutS (wordsOf8 t) none (some ((cell / 14 % ((((wordsOf8 t).map V.str).length : Nat) : Int)) + 1))).map V.str ++ (cutS (wordsOf8 t) (some (cell / 14 % ((((wordsOf8 t).map V.str).length : Nat) : Int))) none).map V.str))) := (s1.trans (u1.trans u2)).trans (same_new nwl _)
    generalize upd J2 wl (.lst ((cutS (wordsOf8 t) none (some ((cell / 14 % ((((wordsOf8 t).map V.str).length : Nat) : Int)) + 1))).map V.str ++ (cutS (wordsOf8 t) (some (cell / 14 % ((((wordsOf8 t).map V.str).length : Nat) : Int))) none).map V.str)) = HH at kwl sH ⊢
    have T : ∃ ts : List Str, HH wl = some (.lst (ts.map V.str)) ∧ AscL ts ∧ Mw ts ≤ 804 := ⟨_, kwl, (aW.cut _ _).app (aW.cut _ _), by rw [Mw_app]; have h3 := cutS_M (wordsOf8 t) none (some ((cell / 14 % ((((wordsOf8 t).map V.str).length : Nat) : Int)) + 1)); have h4 := cutS_M (wordsOf8 t) (some (cell / 14 % ((((wordsOf8 t).map V.str).length : Nat) : Int))) none; omega⟩
    refine ⟨_, rfl, rfl, _, rfl, ite2 (fun cc => absurd (V.int.inj (of_decide_eq_true cc)) (by omega)) (fun _ => ?_)⟩
  case' w6 =>
    have hw : way = 6 := V.int.inj (of_decide_eq_true c6)
    have q1 := cutS_M (wordsOf8 t) none (some (cell / 14 % ((((wordsOf8 t).map V.str).length : Nat) : Int)))
    have q2 := cutS_M (wordsOf8 t) (some ((cell / 14 % ((((wordsOf8 t).map V.str).length : Nat) : Int)) + 1)) (some ((cell / 14 % ((((wordsOf8 t).map V.str).length : Nat) : Int)) + 2))
    have q3 := cutS_M (wordsOf8 t) (some (cell / 14 % ((((wordsOf8 t).map V.str).length : Nat) : Int))) (some ((cell / 14 % ((((wordsOf8 t).map V.str).length : Nat) : Int)) + 1))
    have q4 := cutS_M (wordsOf8 t) (some ((cell / 14 % ((((wordsOf8 t).map V.str).length : Nat) : Int)) + 2)) none
    refine ⟨_, rfl, _, rfl, _, rfl, p, _, rfl, SqL.of k1, fun g1 m1 => ?_⟩
    rw [cutS_V]
    have u1 := same_new m1 (.lst ((cutS (wordsOf8 t) none (some (cell / 14 % ((((wordsOf8 t).map V.str).length : Nat) : Int)))).map V.str))
    have x1 := upd_same (H := H1) (a := g1) (o := .lst ((cutS (wordsOf8 t) none (some (cell / 14 % ((((wordsOf8 t).map V.str).length : Nat) : Int)))).map V.str))
    generalize upd H1 g1 (.lst ((cutS (wordsOf8 t) none (some (cell / 14 % ((((wordsOf8 t).map V.str).length : Nat) : Int)))).map V.str)) = J1 at u1 x1 ⊢
    refine ⟨_, rfl, _, rfl, _, _, rfl, rfl, _, rfl, _, rfl, _, _, rfl, rfl, _, rfl, p, _, rfl, SqL.of (u1 _ _ k1), fun g2 m2 => ?_⟩
    rw [cutS_V]
    have u2 := same_new m2 (.lst ((cutS (wordsOf8 t) (some ((cell / 14 % ((((wordsOf8 t).map V.str).length : Nat) : Int)) + 1)) (some ((cell / 14 % ((((wordsOf8 t).map V.str).length : Nat) : Int)) + 2))).map V.str))
    have x2 := upd_same (H := J1) (a := g2) (o := .lst ((cutS (wordsOf8 t) (some ((cell / 14 % ((((wordsOf8 t).map V.str).length : Nat) : Int)) + 1)) (some ((cell / 14 % ((((wordsOf8 t).map V.str).length : Nat) : Int)) + 2))).map V.str))
    generalize upd J1 g2 (.lst ((cutS (wordsOf8 t) (some ((cell / 14 % ((((wordsOf8 t).map V.str).length : Nat) : Int)) + 1)) (some ((cell / 14 % ((((wordsOf8 t).map V.str).length : Nat) : Int)) + 2))).map V.str)) = J2 at u2 x2 ⊢
    refine ⟨g1, g2, _, _, rfl, rfl, u2 _ _ x1, x2, small (by have h1 := lenM (cutS (wordsOf8 t) none (some (cell / 14 % ((((wordsOf8 t).map V.str).length : Nat) : Int)))); have h2 := lenM (cutS (wordsOf8 t) (some ((cell / 14 % ((((wordsOf8 t).map V.str).length : Nat) : Int)) + 1)) (some ((cell / 14 % ((((wordsOf8 t).map V.str).length : Nat) : Int)) + 2))); omega), fun ah nah => ?_⟩
    have kah : upd J2 ah (.lst ((cutS (wordsOf8 t) none (some (cell / 14 % ((((wordsOf8 t).map V.str).length : Nat) : Int)))).map V.str ++ (cutS (wordsOf8 t) (some ((cell / 14 % ((((wordsOf8 t).map V.str).length : Nat) : Int)) + 1)) (some ((cell / 14 % ((((wordsOf8 t).map V.str).length : Nat) : Int)) + 2))).map V.str)) ah = some (.lst (((cutS (wordsOf8 t) none (some (cell / 14 % ((((wordsOf8 t).map V.str).length : Nat) : Int)))) ++ (cutS (wordsOf8 t) (some ((cell / 14 % ((((wordsOf8 t).map V.str).length : Nat) : Int)) + 1)) (some ((cell / 14 % ((((wordsOf8 t).map V.str).length : Nat) : Int)) + 2)))).map V.str)) := by rw [upd_same]; simp only [List.map_append]
    have u3 := same_new nah (.lst ((cutS (wordsOf8 t) none (some (cell / 14 % ((((wordsOf8 t).map V.str).length : Nat) : Int)))).map V.str ++ (cutS (wordsOf8 t) (some ((cell / 14 % ((((wordsOf8 t).map V.str).length : Nat) : Int)) + 1)) (some ((cell / 14 % ((((wordsOf8 t).map V.str).length : Nat) : Int)) + 2))).map V.str))
    generalize upd J2 ah (.lst ((cutS (wordsOf8 t) none (some (cell / 14 % ((((wordsOf8 t).map V.str).length : Nat) : Int)))).map V.str ++ (cutS (wordsOf8 t) (some ((cell / 14 % ((((wordsOf8 t).map V.str).length : Nat) : Int)) + 1)) (some ((cell / 14 % ((((wordsOf8 t).map V.str).length : Nat) : Int)) + 2))).map V.str)) = J3 at kah u3 ⊢
    have s13 := u1.trans (u2.trans u3)
    refine ⟨_, rfl, _, rfl, _, rfl, _, rfl, _, rfl, _, _, rfl, rfl, _, rfl, p, _, rfl, SqL.of (s13 _ _ k1), fun g4 m4 => ?_⟩
    rw [cutS_V]
    have u4 := same_new m4 (.lst ((cutS (wordsOf8 t) (some (cell / 14 % ((((wordsOf8 t).map V.str).length : Nat) : Int))) (some ((cell / 14 % ((((wordsOf8 t).map V.str).length : Nat) : Int)) + 1))).map V.str))
    have x4 := upd_same (H := J3) (a := g4) (o := .lst ((cutS (wordsOf8 t) (some (cell / 14 % ((((wordsOf8 t).map V.str).length : Nat) : Int))) (some ((cell / 14 % ((((wordsOf8 t).map V.str).length : Nat) : Int)) + 1))).map V.str))
    generalize upd J3 g4 (.lst ((cutS (wordsOf8 t) (some (cell / 14 % ((((wordsOf8 t).map V.str).length : Nat) : Int))) (some ((cell / 14 % ((((wordsOf8 t).map V.str).length : Nat) : Int)) + 1))).map V.str)) = J4 at u4 x4 ⊢
    refine ⟨ah, g4, _, _, rfl, rfl, u4 _ _ kah, x4, small (by have h1 := lenM ((cutS (wordsOf8 t) none (some (cell / 14 % ((((wordsOf8 t).map V.str).length : Nat) : Int)))) ++ (cutS (wordsOf8 t) (some ((cell / 14 % ((((wordsOf8 t).map V.str).length : Nat) : Int)) + 1)) (some ((cell / 14 % ((((wordsOf8 t).map V.str).length : Nat) : Int)) + 2)))); rw [Mw_app] at h1; have h2 := lenM (cutS (wordsOf8 t) (some (cell / 14 % ((((wordsOf8 t).map V.str).length : Nat) : Int))) (some ((cell / 14 % ((((wordsOf8 t).map V.str).length : Nat) : Int)) + 1))); omega), fun b5 n5b => ?_⟩
    have k5 : upd J4 b5 (.lst (((cutS (wordsOf8 t) none (some (cell / 14 % ((((wordsOf8 t).map V.str).length : Nat) : Int)))) ++ (cutS (wordsOf8 t) (some ((cell / 14 % ((((wordsOf8 t).map V.str).length : Nat) : Int)) + 1)) (some ((cell / 14 % ((((wordsOf8 t).map V.str).length : Nat) : Int)) + 2)))).map V.str ++ (cutS (wordsOf8 t) (some (cell / 14 % ((((wordsOf8 t).map V.str).length : Nat) : Int))) (some ((cell / 14 % ((((wordsOf8 t).map V.str).length : Nat) : Int)) + 1))).map V.str)) b5 = some (.lst (((cutS (wordsOf8 t) none (some (cell / 14 % ((((wordsOf8 t).map V.str).length : Nat) : Int)))) ++ (cutS (wordsOf8 t) (some ((cell / 14 % ((((wordsOf8 t).map V.str).length : Nat) : Int)) + 1)) (some ((cell / 14 % ((((wordsOf8 t).map V.str).length : Nat) : Int)) + 2))) ++ (cutS (wordsOf8 t) (some (cell / 14 % ((((wordsOf8 t).map V.str).length : Nat) : Int))) (some ((cell / 14 % ((((wordsOf8 t).map V.str).length : Nat) : Int)) + 1)))).map V.str)) := by rw [upd_same, List.map_append (l₁ := (cutS (wordsOf8 t) none (some (cell / 14 % ((((wordsOf8 t).map V.str).length : Nat) : Int)))) ++ (cutS (wordsOf8 t) (some ((cell / 14 % ((((wordsOf8 t).map V.str).length : Nat) : Int)) + 1)) (some ((cell / 14 % ((((wordsOf8 t).map V.str).length : Nat) : Int)) + 2))))]
    have u5 := same_new n5b (.lst (((cutS (wordsOf8 t) none (some (cell / 14 % ((((wordsOf8 t).map V.str).length : Nat) : Int)))) ++ (cutS (wordsOf8 t) (some ((cell / 14 % ((((wordsOf8 t).map V.str).length : Nat) : Int)) + 1)) (some ((cell / 14 % ((((wordsOf8 t).map V.str).length : Nat) : Int)) + 2)))).map V.str ++ (cutS (wordsOf8 t) (some (cell / 14 % ((((wordsOf8 t).map V.str).length : Nat) : Int))) (some ((cell / 14 % ((((wordsOf8 t).map V.str).length : Nat) : Int)) + 1))).map V.str))
    generalize upd J4 b5 (.lst (((cutS (wordsOf8 t) none (some (cell / 14 % ((((wordsOf8 t).map V.str).length : Nat) : Int)))) ++ (cutS (wordsOf8 t) (some ((cell / 14 % ((((wordsOf8 t).map V.str).length : Nat) : Int)) + 1)) (some ((cell / 14 % ((((wordsOf8 t).map V.str).length : Nat) : Int)) + 2)))).map V.str ++ (cutS (wordsOf8 t) (some (cell / 14 % ((((wordsOf8 t).map V.str).length : Nat) : Int))) (some ((cell / 14 % ((((wordsOf8 t).map V.str).length : Nat) : Int)) + 1))).map V.str)) = J5 at k5 u5 ⊢
    have s15 := s13.trans (u4.trans u5)
    refine ⟨_, rfl, _, rfl, _, _, rfl, rfl, _, rfl, p, _, rfl, SqL.of (s15 _ _ k1), fun g6 m6 => ?_⟩
    rw [cutS_V]
    have u6 := same_new m6 (.lst ((cutS (wordsOf8 t) (some ((cell / 14 % ((((wordsOf8 t).map V.str).length : Nat) : Int)) + 2)) none).map V.str))
    have x6 := upd_same (H := J5) (a := g6) (o := .lst ((cutS (wordsOf8 t) (some ((cell / 14 % ((((wordsOf8 t).map V.str).length : Nat) : Int)) + 2)) none).map V.str))
    generalize upd J5 g6 (.lst ((cutS (wordsOf8 t) (some ((cell / 14 % ((((wordsOf8 t).map V.str).length : Nat) : Int)) + 2)) none).map V.str)) = J6 at u6 x6 ⊢
    refine ⟨b5, g6, _, _, rfl, rfl, u6 _ _ k5, x6, small (by have h1 := lenM ((cutS (wordsOf8 t) none (some (cell / 14 % ((((wordsOf8 t).map V.str).length : Nat) : Int)))) ++ (cutS (wordsOf8 t) (some ((cell / 14 % ((((wordsOf8 t).map V.str).length : Nat) : Int)) + 1)) (some ((cell / 14 % ((((wordsOf8 t).map V.str).length : Nat) : Int)) + 2))) ++ (cutS (wordsOf8 t) (some (cell / 14 % ((((wordsOf8 t).map V.str).length : Nat) : Int))) (some ((cell / 14 % ((((wordsOf8 t).map V.str).length : Nat) : Int)) + 1)))); rw [Mw_app, Mw_app] at h1; have h2 := lenM (cutS (wordsOf8 t) (some ((cell / 14 % ((((wordsOf8 t).map V.str).length : Nat) : Int)) + 2)) none); omega), fun wl nwl => ?_⟩
    have kwl : upd J6 wl (.lst (((cutS (wordsOf8 t) none (some (cell / 14 % ((((wordsOf8 t).map V.str).length : Nat) : Int)))) ++ (cutS (wordsOf8 t) (some ((cell / 14 % ((((wordsOf8 t).map V.str).length : Nat) : Int)) + 1)) (some ((cell / 14 % ((((wordsOf8 t).map V.str).length : Nat) : Int)) + 2))) ++ (cutS (wordsOf8 t) (some (cell / 14 % ((((wordsOf8 t).map V.str).length : Nat) : Int))) (some ((cell / 14 % ((((wordsOf8 t).map V.str).length : Nat) : Int)) + 1)))).map V.str ++ (cutS (wordsOf8 t) (some ((cell / 14 % ((((wordsOf8 t).map V.str).length : Nat) : Int)) + 2)) none).map V.str)) wl = some (.lst (((cutS (wordsOf8 t) none (some (cell / 14 % ((((wordsOf8 t).map V.str).length : Nat) : Int)))) ++ (cutS (wordsOf8 t) (some ((cell / 14 % ((((wordsOf8 t).map V.str).length : Nat) : Int)) + 1)) (some ((cell / 14 % ((((wordsOf8 t).map V.str).length : Nat) : Int)) + 2))) ++ (cutS (wordsOf8 t) (some (cell / 14 % ((((wordsOf8 t).map V.str).length : Nat) : Int))) (some ((cell / 14 % ((((wordsOf8 t).map V.str).length : Nat) : Int)) + 1))) ++ (cutS (wordsOf8 t) (some ((cell / 14 % ((((wordsOf8 t).map V.str).length : Nat) : Int)) + 2)) none)).map V.str)) := by rw [upd_same, List.map_append (l₁ := (cutS (wordsOf8 t) none (some (cell / 14 % ((((wordsOf8 t).map V.str).length : Nat) : Int)))) ++ (cutS (wordsOf8 t) (some ((cell / 14 % ((((wordsOf8 t).map V.str).length : Nat) : Int)) + 1)) (some ((cell / 14 % ((((wordsOf8 t).map V.str).length : Nat) : Int)) + 2))) ++ (cutS (wordsOf8 t) (some (cell / 14 % ((((wordsOf8 t).map V.str).length : Nat) : Int))) (some ((cell / 14 % ((((wordsOf8 t).map V.str).length : Nat) : Int)) + 1))))]
    have sH : Same H (upd J6 wl (.lst (((cutS (wordsOf8 t) none (some (cell / 14 % ((((wordsOf8 t).map V.str).length : Nat) : Int)))) ++ (cutS (wordsOf8 t) (some ((cell / 14 % ((((wordsOf8 t).map V.str).length : Nat) : Int)) + 1)) (some ((cell / 14 % ((((wordsOf8 t).map V.str).length : Nat) : Int)) + 2))) ++ (cutS (wordsOf8 t) (some (cell / 14 % ((((wordsOf8 t).map V.str).length : Nat) : Int))) (some ((cell / 14 % ((((wordsOf8 t).map V.str).length : Nat) : Int)) + 1)))).map V.str ++ (cutS (wordsOf8 t) (some ((cell / 14 % ((((wordsOf8 t).map V.str).length : Nat) : Int)) + 2)) none).map V.str))) := (s1.trans (s15.trans u6)).trans (same_new nwl _)
    generalize upd J6 wl (.lst (((cutS (wordsOf8 t) none (some (cell / 14 % ((((wordsOf8 t).map V.str).length : Nat) : Int)))) ++ (cutS (wordsOf8 t) (some ((cell / 14 % ((((wordsOf8 t).map V.str).length : Nat) : Int)) + 1)) (some ((cell / 14 % ((((wordsOf8 t).map V.str).length : Nat) : Int)) + 2))) ++ (cutS (wordsOf8 t) (some (cell / 14 % ((((wordsOf8 t).map V.str).length : Nat) : Int))) (some ((cell / 14 % ((((wordsOf8 t).map V.str).length : Nat) : Int)) + 1)))).map V.str ++ (cutS (wordsOf8 t) (some ((cell / 14 % ((((wordsOf8 t).map V.str).length : Nat) : Int)) + 2)) none).map V.str)) = HH at kwl sH ⊢
    have T : ∃ ts : List Str, HH wl = some (.lst (ts.map V.str)) ∧ AscL ts ∧ Mw ts ≤ 804 := ⟨_, kwl, (((aW.cut _ _).app (aW.cut _ _)).app (aW.cut _ _)).app (aW.cut _ _), by rw [Mw_app, Mw_app, Mw_app]; omega⟩
  case' r6 =>
    have sH : Same H H1 := s1
    have T : ∃ ts : List Str, H1 p = some (.lst (ts.map V.str)) ∧ AscL ts ∧ Mw ts ≤ 804 := ⟨_, k1, aW, by omega⟩
  all_goals
    obtain ⟨ts, kT, aT, mT⟩ := T
    refine ⟨_, rfl, rfl, _, rfl, ite2 (fun _ => ?_) (fun _ => ?_)⟩
    · refine ⟨(by decide +kernel), fun l nl => ?_⟩
      refine ⟨_, rfl, _, _, rfl, rfl, (by show (0 : Int) < 10; decide), ?_⟩
      exact ret_txt (by decide +kernel) (by decide +kernel) (Int.emod_nonneg _ (by decide)) (Int.emod_lt_of_pos _ (by decide)) fun y ay ly => q y _ ay ly (sH.trans (same_new nl _))
    · have hj := join_len sep ts
      have ls : sep.length = 1 := by decide +kernel
      rw [ls, Nat.mul_one] at hj
      have hM : (ts.map (·.length)).sum + ts.length ≤ 804 := mT
      refine ⟨rfl, _, rfl, _, _, ts, rfl, rfl, SqL.of kT, ?_, ?_⟩
      · rw [show (" " : Str).length = 1 by decide +kernel]; omega
      · refine q _ _ (fun c hc => ?_) (by have := hj.1; exact Nat.le_trans this (by omega)) sH
        rcases mem_join hc with h | ⟨x, hx, h⟩
        · clear hc
          revert c; decide +kernel
        · exact aT x hx c h
end
end FT
set_option Elab.async false
set_option maxHeartbeats 4000000
set_option maxRecDepth 20000
namespace FT
open PySem L2 TM
theorem all_mk {l : PySem.W.OpenLaw} {w : World} {K : PySem.W.Frag} {h : Heap} {mg : Str → Option Value} {fa C : Addr} {CB CN CP CT CF : Addr} {tkf : Tok} {tk0 : Tok} {tk1 : Tok} {tk2 : Tok}
    {f1 : Addr} {od1 an1 : Option Addr} {sl1 : Array (Option Value)} {oc1 kV1 dc1 pm1 cd1 ct1 : Value}
    {f2 : Addr} {od2 an2 : Option Addr} {sl2 : Array (Option Value)} {oc2 kV2 dc2 pm2 cd2 ct2 : Value}
    {f3 : Addr} {od3 an3 : Option Addr} {sl3 : Array (Option Value)} {oc3 kV3 dc3 pm3 cd3 ct3 : Value}
    {f4 : Addr} {od4 an4 : Option Addr} {sl4 : Array (Option Value)} {oc4 kV4 dc4 pm4 cd4 ct4 : Value}
    {f5 : Addr} {od5 an5 : Option Addr} {sl5 : Array (Option Value)} {oc5 kV5 dc5 pm5 cd5 ct5 : Value}
    {f6 : Addr} {od6 an6 : Option Addr} {sl6 : Array (Option Value)} {oc6 kV6 dc6 pm6 cd6 ct6 : Value}
    {f7 : Addr} {od7 an7 : Option Addr} {sl7 : Array (Option Value)} {oc7 kV7 dc7 pm7 cd7 ct7 : Value}
    {f8 : Addr} {od8 an8 : Option Addr} {sl8 : Array (Option Value)} {oc8 kV8 dc8 pm8 cd8 ct8 : Value}
    {f9 : Addr} {od9 an9 : Option Addr} {sl9 : Array (Option Value)} {oc9 kV9 dc9 pm9 cd9 ct9 : Value}
    {f10 : Addr} {od10 an10 : Option Addr} {sl10 : Array (Option Value)} {oc10 kV10 dc10 pm10 cd10 ct10 : Value}
    {f11 : Addr} {od11 an11 : Option Addr} {sl11 : Array (Option Value)} {oc11 kV11 dc11 pm11 cd11 ct11 : Value}
    {f12 : Addr} {od12 an12 : Option Addr} {sl12 : Array (Option Value)} {oc12 kV12 dc12 pm12 cd12 ct12 : Value}
    {f13 : Addr} {od13 an13 : Option Addr} {sl13 : Array (Option Value)} {oc13 kV13 dc13 pm13 cd13 ct13 : Value}
    {f14 : Addr} {od14 an14 : Option Addr} {sl14 : Array (Option Value)} {oc14 kV14 dc14 pm14 cd14 ct14 : Value}
    {f15 : Addr} {od15 an15 : Option Addr} {sl15 : Array (Option Value)} {oc15 kV15 dc15 pm15 cd15 ct15 : Value}
    {f16 : Addr} {od16 an16 : Option Addr} {sl16 : Array (Option Value)} {oc16 kV16 dc16 pm16 cd16 ct16 : Value}
    {f17 : Addr} {od17 an17 : Option Addr} {sl17 : Array (Option Value)} {oc17 kV17 dc17 pm17 cd17 ct17 : Value}
    {f18 : Addr} {od18 an18 : Option Addr} {sl18 : Array (Option Value)} {oc18 kV18 dc18 pm18 cd18 ct18 : Value}
    {f19 : Addr} {od19 an19 : Option Addr} {sl19 : Array (Option Value)} {oc19 kV19 dc19 pm19 cd19 ct19 : Value}
    {f20 : Addr} {od20 an20 : Option Addr} {sl20 : Array (Option Value)} {oc20 kV20 dc20 pm20 cd20 ct20 : Value}
    (X : K.In h) (G : h.Ns mainGlobals mg) (hfa : mg "law" = some (.ref fa))
    (aC : PySem.W.nsIn K mainGlobals "Tree" = some (some (.ref C)))
    (a1 : PySem.W.nsIn K mainGlobals "check_lengths" = some (some (.ref f1)))
    (l1 : K.lookup f1 = some ⟨oc1, od1, .func (PySem.W.fnOf "check_lengths" "check_lengths" (defArgs s_lengths) (defBody s_lengths) (defScope s_lengths) .none kV1 dc1 pm1 an1 cd1 ct1), sl1⟩)
    (c1 : PySem.W.codeIn K cd1 "check_lengths" = true)
    (k1 : PySem.W.keepIn K (.ref f1) = true)
    (a2 : PySem.W.nsIn K mainGlobals "check_elders" = some (some (.ref f2)))
    (l2 : K.lookup f2 = some ⟨oc2, od2, .func (PySem.W.fnOf "check_elders" "check_elders" (defArgs s_chkE) (defBody s_chkE) (defScope s_chkE) .none kV2 dc2 pm2 an2 cd2 ct2), sl2⟩)
    (c2 : PySem.W.codeIn K cd2 "check_elders" = true)
    (k2 : PySem.W.keepIn K (.ref f2) = true)
    (a3 : PySem.W.nsIn K mainGlobals "check_worths" = some (some (.ref f3)))
    (l3 : K.lookup f3 = some ⟨oc3, od3, .func (PySem.W.fnOf "check_worths" "check_worths" (defArgs s_chkW) (defBody s_chkW) (defScope s_chkW) .none kV3 dc3 pm3 an3 cd3 ct3), sl3⟩)
    (c3 : PySem.W.codeIn K cd3 "check_worths" = true)
    (k3 : PySem.W.keepIn K (.ref f3) = true)
    (a4 : PySem.W.nsIn K mainGlobals "is_number" = some (some (.ref f4)))
    (l4 : K.lookup f4 = some ⟨oc4, od4, .func (PySem.W.fnOf "is_number" "is_number" (defArgs s_isnum) (defBody s_isnum) (defScope s_isnum) .none kV4 dc4 pm4 an4 cd4 ct4), sl4⟩)
    (c4 : PySem.W.codeIn K cd4 "is_number" = true)
    (k4 : PySem.W.keepIn K (.ref f4) = true)
    (a5 : PySem.W.nsIn K mainGlobals "number_of" = some (some (.ref f5)))
    (l5 : K.lookup f5 = some ⟨oc5, od5, .func (PySem.W.fnOf "number_of" "number_of" (defArgs s_numof) (defBody s_numof) (defScope s_numof) .none kV5 dc5 pm5 an5 cd5 ct5), sl5⟩)
    (c5 : PySem.W.codeIn K cd5 "number_of" = true)
    (k5 : PySem.W.keepIn K (.ref f5) = true)
    (a6 : PySem.W.nsIn K mainGlobals "halves_of" = some (some (.ref f6)))
    (l6 : K.lookup f6 = some ⟨oc6, od6, .func (PySem.W.fnOf "halves_of" "halves_of" (defArgs s_halves) (defBody s_halves) (defScope s_halves) .none kV6 dc6 pm6 an6 cd6 ct6), sl6⟩)
    (c6 : PySem.W.codeIn K cd6 "halves_of" = true)
    (k6 : PySem.W.keepIn K (.ref f6) = true)
    (a7 : PySem.W.nsIn K mainGlobals "read" = some (some (.ref f7)))
    (l7 : K.lookup f7 = some ⟨oc7, od7, .func (PySem.W.fnOf "read" "read" (defArgs s_read) (defBody s_read) (defScope s_read) .none kV7 dc7 pm7 an7 cd7 ct7), sl7⟩)
    (c7 : PySem.W.codeIn K cd7 "read" = true)
    (k7 : PySem.W.keepIn K (.ref f7) = true)
    (a8 : PySem.W.nsIn K mainGlobals "_law_cell_at" = some (some (.ref f8)))
    (l8 : K.lookup f8 = some ⟨oc8, od8, .func (PySem.W.fnOf "_law_cell_at" "_law_cell_at" (defArgs s_cell) (defBody s_cell) (defScope s_cell) .none kV8 dc8 pm8 an8 cd8 ct8), sl8⟩)
    (c8 : PySem.W.codeIn K cd8 "_law_cell_at" = true)
    (k8 : PySem.W.keepIn K (.ref f8) = true)
    (a9 : PySem.W.nsIn K mainGlobals "_law_draw" = some (some (.ref f9)))
    (l9 : K.lookup f9 = some ⟨oc9, od9, .func (PySem.W.fnOf "_law_draw" "_law_draw" (defArgs s_draw) (defBody s_draw) (defScope s_draw) .none kV9 dc9 pm9 an9 cd9 ct9), sl9⟩)
    (c9 : PySem.W.codeIn K cd9 "_law_draw" = true)
    (k9 : PySem.W.keepIn K (.ref f9) = true)
    (a10 : PySem.W.nsIn K mainGlobals "_law_elders" = some (some (.ref f10)))
    (l10 : K.lookup f10 = some ⟨oc10, od10, .func (PySem.W.fnOf "_law_elders" "_law_elders" (defArgs s_elders) (defBody s_elders) (defScope s_elders) .none kV10 dc10 pm10 an10 cd10 ct10), sl10⟩)
    (c10 : PySem.W.codeIn K cd10 "_law_elders" = true)
    (k10 : PySem.W.keepIn K (.ref f10) = true)
    (a11 : PySem.W.nsIn K mainGlobals "_law_tree" = some (some (.ref f11)))
    (l11 : K.lookup f11 = some ⟨oc11, od11, .func (PySem.W.fnOf "_law_tree" "_law_tree" (defArgs s_tree) (defBody s_tree) (defScope s_tree) .none kV11 dc11 pm11 an11 cd11 ct11), sl11⟩)
    (c11 : PySem.W.codeIn K cd11 "_law_tree" = true)
    (k11 : PySem.W.keepIn K (.ref f11) = true)
    (a12 : PySem.W.nsIn K mainGlobals "_law_alone" = some (some (.ref f12)))
    (l12 : K.lookup f12 = some ⟨oc12, od12, .func (PySem.W.fnOf "_law_alone" "_law_alone" (defArgs s_alone) (defBody s_alone) (defScope s_alone) .none kV12 dc12 pm12 an12 cd12 ct12), sl12⟩)
    (c12 : PySem.W.codeIn K cd12 "_law_alone" = true)
    (k12 : PySem.W.keepIn K (.ref f12) = true)
    (a13 : PySem.W.nsIn K mainGlobals "_law_turned" = some (some (.ref f13)))
    (l13 : K.lookup f13 = some ⟨oc13, od13, .func (PySem.W.fnOf "_law_turned" "_law_turned" (defArgs s_turned) (defBody s_turned) (defScope s_turned) .none kV13 dc13 pm13 an13 cd13 ct13), sl13⟩)
    (c13 : PySem.W.codeIn K cd13 "_law_turned" = true)
    (k13 : PySem.W.keepIn K (.ref f13) = true)
    (a14 : PySem.W.nsIn K mainGlobals "_law_number" = some (some (.ref f14)))
    (l14 : K.lookup f14 = some ⟨oc14, od14, .func (PySem.W.fnOf "_law_number" "_law_number" (defArgs s_number) (defBody s_number) (defScope s_number) .none kV14 dc14 pm14 an14 cd14 ct14), sl14⟩)
    (c14 : PySem.W.codeIn K cd14 "_law_number" = true)
    (k14 : PySem.W.keepIn K (.ref f14) = true)
    (a15 : PySem.W.nsIn K mainGlobals "_law_due" = some (some (.ref f15)))
    (l15 : K.lookup f15 = some ⟨oc15, od15, .func (PySem.W.fnOf "_law_due" "_law_due" (defArgs s_due) (defBody s_due) (defScope s_due) .none kV15 dc15 pm15 an15 cd15 ct15), sl15⟩)
    (c15 : PySem.W.codeIn K cd15 "_law_due" = true)
    (k15 : PySem.W.keepIn K (.ref f15) = true)
    (a16 : PySem.W.nsIn K mainGlobals "_law_told" = some (some (.ref f16)))
    (l16 : K.lookup f16 = some ⟨oc16, od16, .func (PySem.W.fnOf "_law_told" "_law_told" (defArgs s_told) (defBody s_told) (defScope s_told) .none kV16 dc16 pm16 an16 cd16 ct16), sl16⟩)
    (c16 : PySem.W.codeIn K cd16 "_law_told" = true)
    (k16 : PySem.W.keepIn K (.ref f16) = true)
    (a17 : PySem.W.nsIn K mainGlobals "law" = some (some (.ref f17)))
    (l17 : K.lookup f17 = some ⟨oc17, od17, .func (PySem.W.fnOf "law" "law" (defArgs s_law) (defBody s_law) (defScope s_law) .none kV17 dc17 pm17 an17 cd17 ct17), sl17⟩)
    (c17 : PySem.W.codeIn K cd17 "law" = true)
    (k17 : PySem.W.keepIn K (.ref f17) = true)
    (a18 : PySem.W.findIn K (.ref C) "__init__" = some (some (.ref f18)))
    (i18 : PySem.W.isFn K (.ref f18) = true)
    (l18 : K.lookup f18 = some ⟨oc18, od18, .func (PySem.W.fnOf "__init__" "Tree.__init__" (defArgs s_init) (defBody s_init) (defScope s_init) .none kV18 dc18 pm18 an18 cd18 ct18), sl18⟩)
    (c18 : PySem.W.codeIn K cd18 "Tree.__init__" = true)
    (k18 : PySem.W.keepIn K (.ref f18) = true)
    (a19 : PySem.W.findIn K (.ref C) "elders" = some (some (.ref f19)))
    (i19 : PySem.W.isFn K (.ref f19) = true)
    (l19 : K.lookup f19 = some ⟨oc19, od19, .func (PySem.W.fnOf "elders" "Tree.elders" (defArgs s_getE) (defBody s_getE) (defScope s_getE) .none kV19 dc19 pm19 an19 cd19 ct19), sl19⟩)
    (c19 : PySem.W.codeIn K cd19 "Tree.elders" = true)
    (k19 : PySem.W.keepIn K (.ref f19) = true)
    (a20 : PySem.W.findIn K (.ref C) "worths" = some (some (.ref f20)))
    (i20 : PySem.W.isFn K (.ref f20) = true)
    (l20 : K.lookup f20 = some ⟨oc20, od20, .func (PySem.W.fnOf "worths" "Tree.worths" (defArgs s_getW) (defBody s_getW) (defScope s_getW) .none kV20 dc20 pm20 an20 cd20 ct20), sl20⟩)
    (c20 : PySem.W.codeIn K cd20 "Tree.worths" = true)
    (k20 : PySem.W.keepIn K (.ref f20) = true)
    (pg : PySem.W.plainGet K C Str.empty = true)
    (hd : PySem.W.hasDictIn K C = true)
    (po : PySem.W.plainOver K C = true)
    (sa : PySem.W.findIn K (.ref C) "__setattr__" = some (some (.builtin "object.__setattr__")))
    (mk : PySem.W.makesIn K C = true)
    (kc : PySem.W.keepIn K (.ref C) = true)
    (na0 : PySem.W.findIn K (.ref C) "elder_row" = some none)
    (na1 : PySem.W.findIn K (.ref C) "worth_row" = some none)
    (co0 : PySem.W.nsIn K mainGlobals "MOST_THINGS" = some (some (.int 14 tk0)))
    (co1 : PySem.W.nsIn K mainGlobals "MOST_WORTH" = some (some (.int 1000 tk1)))
    (co2 : PySem.W.nsIn K mainGlobals "MOST_FIGURES" = some (some (.int 4 tk2)))
    (z0 : PySem.W.nsIn K mainGlobals "len" = some none)
    (z1 : PySem.W.nsIn K mainGlobals "range" = some none)
    (z2 : PySem.W.nsIn K mainGlobals "min" = some none)
    (z3 : PySem.W.nsIn K mainGlobals "max" = some none)
    (z4 : PySem.W.nsIn K mainGlobals "list" = some none)
    (z5 : PySem.W.nsIn K mainGlobals "tuple" = some none)
    (z6 : PySem.W.nsIn K mainGlobals "sum" = some none)
    (z7 : PySem.W.nsIn K mainGlobals "isinstance" = some none)
    (z8 : PySem.W.nsIn K mainGlobals "int" = some none)
    (z9 : PySem.W.nsIn K mainGlobals "bool" = some none)
    (z10 : PySem.W.nsIn K mainGlobals "enumerate" = some none)
    (z11 : PySem.W.nsIn K mainGlobals "ValueError" = some none)
    (z12 : PySem.W.nsIn K mainGlobals "str" = some none)
    (z13 : PySem.W.nsIn K mainGlobals "all" = some none)
    (ki0 : PySem.W.kitOne K (.ref C) (.ref C) = some true)
    (nB : PySem.W.nsIn K mainGlobals "BadTree" = some (some (.ref CB)))
    (nN : PySem.W.nsIn K mainGlobals "NoThing" = some (some (.ref CN)))
    (nP : PySem.W.nsIn K mainGlobals "BadPlan" = some (some (.ref CP)))
    (nT : PySem.W.nsIn K mainGlobals "NoText" = some (some (.ref CT)))
    (nF : PySem.W.nsIn K mainGlobals "FireError" = some (some (.ref CF)))
    (xB1 : PySem.W.findIn K (.ref CB) "__getattribute__" = some (some (.builtin "BaseException.__getattribute__")))
    (xB2 : PySem.W.findIn K (.ref CB) "__getattr__" = some none)
    (xB3 : PySem.W.findIn K (.ref CB) "__class__" = some (some (.builtin "object.__class__")))
    (xB4 : PySem.W.mroIn K CB (.type "object") = some true)
    (xB5 : PySem.W.mroIn K CB (.type "BaseException") = some true)
    (xB6 : PySem.W.excIn K CB bmVE "ValueError.__new__" = true)
    (xT1 : PySem.W.findIn K (.ref CT) "__getattribute__" = some (some (.builtin "BaseException.__getattribute__")))
    (xT2 : PySem.W.findIn K (.ref CT) "__getattr__" = some none)
    (xT3 : PySem.W.findIn K (.ref CT) "__class__" = some (some (.builtin "object.__class__")))
    (xT4 : PySem.W.mroIn K CT (.type "object") = some true)
    (xT5 : PySem.W.mroIn K CT (.type "BaseException") = some true)
    (xT6 : PySem.W.excIn K CT bmVE "ValueError.__new__" = true)
    (xT7 : PySem.W.exmOne K (.ref CT) (.ref CF) = some true)
    (xT8 : PySem.W.kitOne K (.ref CT) (.type "ValueError") = some true)
    (xB9 : PySem.W.exmOne K (.ref CB) (.ref CB) = some true)
    (yTB : PySem.W.kitOne K (.ref CT) (.ref CB) = some false)
    (yTN : PySem.W.kitOne K (.ref CT) (.ref CN) = some false)
    (yTP : PySem.W.kitOne K (.ref CT) (.ref CP) = some false)
    (yTT : PySem.W.kitOne K (.ref CT) (.ref CT) = some true)
    (yTF : PySem.W.kitOne K (.ref CT) (.ref CF) = some true)
    (gt : PySem.W.specialIn K (.builtin "object.__class__") "__get__" = some (some (.builtin "getset_descriptor.__get__")))
    (tk : PySem.W.takesIn K (.builtin "object.__class__") = some true)
    (nFG : PySem.W.nsIn K mainGlobals "FIGURES" = some (some (.str "0123456789" tkf)))
    (oa : PySem.W.findIn K (.ref C) "__class__" = some (some (.builtin "object.__class__")))
    (om : PySem.W.mroIn K C (.type "object") = some true) :
    ∃ fd : FuncData, (∀ (s : Shared) (v : Value), BindsTo s fd ⟨[v], []⟩ [("script", v)]) ∧ ∀ base : Heap, K.In base → base.Ns mainGlobals mg → FnOk l.prog w K mg base (CX1 l.prog w) 6 fa fd ["script"] (spLaw K) := by
  have e := hfa.symm.trans (PySem.W.mg_of X G a17)
  cases e
  have F1 := fun_mk (st := s_lengths) l1 c1 k1
  have b1 := F1.binds (ps := ["elders", "worths"]) fun _ _ _ _ _ _ us hl => match us, hl with | [_, _], _ => rfl
  have F2 := fun_mk (st := s_chkE) l2 c2 k2
  have b2 := F2.binds (ps := ["elders"]) fun _ _ _ _ _ _ us hl => match us, hl with | [_], _ => rfl
  have F3 := fun_mk (st := s_chkW) l3 c3 k3
  have b3 := F3.binds (ps := ["worths"]) fun _ _ _ _ _ _ us hl => match us, hl with | [_], _ => rfl
  have F4 := fun_mk (st := s_isnum) l4 c4 k4
  have b4 := F4.binds (ps := ["part"]) fun _ _ _ _ _ _ us hl => match us, hl with | [_], _ => rfl
  have F5 := fun_mk (st := s_numof) l5 c5 k5
  have b5 := F5.binds (ps := ["part"]) fun _ _ _ _ _ _ us hl => match us, hl with | [_], _ => rfl
  have F6 := fun_mk (st := s_halves) l6 c6 k6
  have b6 := F6.binds (ps := ["part"]) fun _ _ _ _ _ _ us hl => match us, hl with | [_], _ => rfl
  have F7 := fun_mk (st := s_read) l7 c7 k7
  have b7 := F7.binds (ps := ["text"]) fun _ _ _ _ _ _ us hl => match us, hl with | [_], _ => rfl
  have F8 := fun_mk (st := s_cell) l8 c8 k8
  have b8 := F8.binds (ps := ["script", "k"]) fun _ _ _ _ _ _ us hl => match us, hl with | [_, _], _ => rfl
  have F9 := fun_mk (st := s_draw) l9 c9 k9
  have b9 := F9.binds (ps := ["script", "k"]) fun _ _ _ _ _ _ us hl => match us, hl with | [_, _], _ => rfl
  have F10 := fun_mk (st := s_elders) l10 c10 k10
  have b10 := F10.binds (ps := ["script", "things"]) fun _ _ _ _ _ _ us hl => match us, hl with | [_, _], _ => rfl
  have F11 := fun_mk (st := s_tree) l11 c11 k11
  have b11 := F11.binds (ps := ["script", "most"]) fun _ _ _ _ _ _ us hl => match us, hl with | [_, _], _ => rfl
  have F12 := fun_mk (st := s_alone) l12 c12 k12
  have b12 := F12.binds (ps := ["e"]) fun _ _ _ _ _ _ us hl => match us, hl with | [_], _ => rfl
  have F13 := fun_mk (st := s_turned) l13 c13 k13
  have b13 := F13.binds (ps := ["text", "way", "cell"]) fun _ _ _ _ _ _ us hl => match us, hl with | [_, _, _], _ => rfl
  have F14 := fun_mk (st := s_number) l14 c14 k14
  have b14 := F14.binds (ps := ["word"]) fun _ _ _ _ _ _ us hl => match us, hl with | [_], _ => rfl
  have F15 := fun_mk (st := s_due) l15 c15 k15
  have b15 := F15.binds (ps := ["text"]) fun _ _ _ _ _ _ us hl => match us, hl with | [_], _ => rfl
  have F16 := fun_mk (st := s_told) l16 c16 k16
  have b16 := F16.binds (ps := ["text"]) fun _ _ _ _ _ _ us hl => match us, hl with | [_], _ => rfl
  have F17 := fun_mk (st := s_law) l17 c17 k17
  have b17 := F17.binds (ps := ["script"]) fun _ _ _ _ _ _ us hl => match us, hl with | [_], _ => rfl
  have F18 := fun_mk (st := s_init) l18 c18 k18
  have b18 := F18.binds (ps := ["self", "elders", "worths"]) fun _ _ _ _ _ _ us hl => match us, hl with | [_, _, _], _ => rfl
  have F19 := fun_mk (st := s_getE) l19 c19 k19
  have b19 := F19.binds (ps := ["self"]) fun _ _ _ _ _ _ us hl => match us, hl with | [_], _ => rfl
  have F20 := fun_mk (st := s_getW) l20 c20 k20
  have b20 := F20.binds (ps := ["self"]) fun _ _ _ _ _ _ us hl => match us, hl with | [_], _ => rfl
  have N : Nm mg := ⟨PySem.W.mg_none_of X G z0, PySem.W.mg_none_of X G z1, PySem.W.mg_none_of X G z2, PySem.W.mg_none_of X G z3, PySem.W.mg_none_of X G z4, PySem.W.mg_none_of X G z5, PySem.W.mg_none_of X G z6, PySem.W.mg_none_of X G z7, PySem.W.mg_none_of X G z8, PySem.W.mg_none_of X G z9, PySem.W.mg_none_of X G z10⟩
  have N8 : Nm8 mg := ⟨PySem.W.mg_none_of X G z12, PySem.W.mg_none_of X G z13, ⟨_, PySem.W.mg_of X G nFG⟩, ⟨_, PySem.W.mg_of X G co2⟩⟩
  have T : Txt K mg C := ⟨⟨pg, hd, po, sa⟩, na0, na1, ⟨_, PySem.W.mg_of X G co0⟩, ⟨_, PySem.W.mg_of X G co1⟩⟩
  have O : OwnCls K C := ⟨oa, gt, tk, om, ki0⟩
  have XB : XCls K CB := ⟨xB1, xB2, xB3, gt, tk, xB4, xB5⟩
  have XT : XCls K CT := ⟨xT1, xT2, xT3, gt, tk, xT4, xT5⟩
  have EB : Exc K mg "BadTree" CB := ⟨PySem.W.mg_of X G nB, xB6, XB⟩
  have ET : Exc K mg "NoText" CT := ⟨PySem.W.mg_of X G nT, xT6, XT⟩
  have NN : Names mg CB CN CP CT CF := ⟨PySem.W.mg_of X G nB, PySem.W.mg_of X G nN, PySem.W.mg_of X G nP, PySem.W.mg_of X G nT, PySem.W.mg_of X G nF, PySem.W.mg_none_of X G z11, PySem.W.mg_none_of X G z7⟩
  have KT : Kin K CT CB CN CP CT CF false false false true := ⟨yTB, yTN, yTP, yTT, yTF, xT8, xT7⟩
  refine ⟨PySem.W.fnOf "law" "law" (defArgs s_law) (defBody s_law) (defScope s_law) .none kV17 dc17 pm17 an17 cd17 ct17, fun s v => .of_eq rfl, fun base _ _ => ?_⟩
  have Dcheck_lengths : DefOk l.prog w K mg base (CX1 l.prog w) "check_lengths" 1 _ (spLenX K CB) := ⟨_, _, ok_lengths F1 N T EB, b1, k1, PySem.W.mg_of X G a1⟩
  have Dcheck_elders : DefOk l.prog w K mg base (CX1 l.prog w) "check_elders" 1 _ (spChkEX CB) := ⟨_, _, ok_chkE F2 N EB, b2, k2, PySem.W.mg_of X G a2⟩
  have Dcheck_worths : DefOk l.prog w K mg base (CX1 l.prog w) "check_worths" 1 _ (spChkWX K CB) := ⟨_, _, ok_chkW F3 T EB, b3, k3, PySem.W.mg_of X G a3⟩
  have DTree : ClsOk l.prog w K mg base (CX1 l.prog w) "Tree" C 2 _ (spInitX C CB) := ⟨_, _, ok_init F18 N T Dcheck_lengths Dcheck_elders Dcheck_worths, b18, ⟨mk, a18, i18, kc⟩, PySem.W.mg_of X G aC⟩
  have Yelders : MethOk l.prog w K mg base CX0 C "elders" 1 _ (spGetE C) := ⟨T.cl, _, _, ok_getE F19 N T, b19, ⟨a19, i19, k19⟩⟩
  have Melders := MethOk.lift (CX := (CX1 l.prog w)) Yelders
  have Yworths : MethOk l.prog w K mg base CX0 C "worths" 1 _ (spGetW C) := ⟨T.cl, _, _, ok_getW F20 N T, b20, ⟨a20, i20, k20⟩⟩
  have Mworths := MethOk.lift (CX := (CX1 l.prog w)) Yworths
  have Zis_number : DefOk l.prog w K mg base CX0 "is_number" 1 _ spIsNum := ⟨_, _, ok_isnum F4 N N8, b4, k4, PySem.W.mg_of X G a4⟩
  have Dis_number := DefOk.lift (CX := (CX1 l.prog w)) Zis_number
  have Dnumber_of : DefOk l.prog w K mg base (CX1 l.prog w) "number_of" 2 _ (spNumOf CT) := ⟨_, _, ok_numof F5 N ET Dis_number, b5, k5, PySem.W.mg_of X G a5⟩
  have Dhalves_of : DefOk l.prog w K mg base (CX1 l.prog w) "halves_of" 1 _ (spHalves CT) := ⟨_, _, ok_halves F6 N ET, b6, k6, PySem.W.mg_of X G a6⟩
  have Dread : DefOk l.prog w K mg base (CX1 l.prog w) "read" 4 _ (spRead C CT) := ⟨_, _, ok_read F7 N ET EB xB9 Dhalves_of Dnumber_of DTree, b7, k7, PySem.W.mg_of X G a7⟩
  have Z_law_cell_at : DefOk l.prog w K mg base CX0 "_law_cell_at" 1 _ (spCell K) := ⟨_, _, ok_cell F8 N, b8, k8, PySem.W.mg_of X G a8⟩
  have D_law_cell_at := DefOk.lift (CX := (CX1 l.prog w)) Z_law_cell_at
  have Z_law_draw : DefOk l.prog w K mg base CX0 "_law_draw" 2 _ (spDraw K) := ⟨_, _, ok_draw F9 Z_law_cell_at, b9, k9, PySem.W.mg_of X G a9⟩
  have D_law_draw := DefOk.lift (CX := (CX1 l.prog w)) Z_law_draw
  have Z_law_elders : DefOk l.prog w K mg base CX0 "_law_elders" 3 _ (spElders K) := ⟨_, _, ok_elders F10 N Z_law_draw, b10, k10, PySem.W.mg_of X G a10⟩
  have D_law_elders := DefOk.lift (CX := (CX1 l.prog w)) Z_law_elders
  have Z_law_tree : DefOk l.prog w K mg base CX0 "_law_tree" 4 _ (spTree K) := ⟨_, _, ok_tree F11 N Z_law_draw Z_law_elders, b11, k11, PySem.W.mg_of X G a11⟩
  have D_law_tree := DefOk.lift (CX := (CX1 l.prog w)) Z_law_tree
  have Z_law_alone : DefOk l.prog w K mg base CX0 "_law_alone" 1 _ (spAlone CT) := ⟨_, _, ok_alone F12 NN KT XT, b12, k12, PySem.W.mg_of X G a12⟩
  have D_law_alone := DefOk.lift (CX := (CX1 l.prog w)) Z_law_alone
  have Z_law_turned : DefOk l.prog w K mg base CX0 "_law_turned" 1 _ spTurnedL := ⟨_, _, ok_turned F13 N, b13, k13, PySem.W.mg_of X G a13⟩
  have D_law_turned := DefOk.lift (CX := (CX1 l.prog w)) Z_law_turned
  have Z_law_number : DefOk l.prog w K mg base CX0 "_law_number" 1 _ spNumber := ⟨_, _, ok_number F14 N, b14, k14, PySem.W.mg_of X G a14⟩
  have D_law_number := DefOk.lift (CX := (CX1 l.prog w)) Z_law_number
  have Z_law_due : DefOk l.prog w K mg base CX0 "_law_due" 2 _ spDue := ⟨_, _, ok_due F15 N Z_law_number, b15, k15, PySem.W.mg_of X G a15⟩
  have D_law_due := DefOk.lift (CX := (CX1 l.prog w)) Z_law_due
  have D_law_told : DefOk l.prog w K mg base (CX1 l.prog w) "_law_told" 5 _ (spTold C CT) := ⟨_, _, ok_told F16 NN KT Dread, b16, k16, PySem.W.mg_of X G a16⟩
  exact ok_law F17 N N8 O T.cl (PySem.W.mg_of X G aC) D_law_tree D_law_draw Melders Mworths D_law_turned D_law_due D_law_told D_law_alone
theorem walk {l : PySem.W.OpenLaw} {q : Program} {loose : List Str} {XP : (Str → Option Value) → Heap → Prop} {YP : World → Heap → Prop} {d : DefRec} {K : Params → PySem.W.Frag} (hn : l.most = some 63) (hdf : d.params.defaults = [])
    (hY : ∀ (w : World) (h : Heap), YP w h → (K w.params).In h)
    (F : ∀ (w : World) (mg : Str → Option Value) (fa : Addr) (h : Heap), (K w.params).In h → h.Ns mainGlobals mg → mg d.name = some (.ref fa) →
      ∃ fd : FuncData, (∀ (s : Shared) (u : Value), BindsTo s fd ⟨[u], []⟩ [("script", u)]) ∧ ∀ base : Heap, (K w.params).In base → base.Ns mainGlobals mg → FnOk l.prog w (K w.params) mg base (CX1 l.prog w) 6 fa fd ["script"] (spLaw (K w.params))) :
    PySem.W.WalkO q loose XP YP l.row.toRowW d [] (fun f vs => PySem.call f vs) :=
  L2.walk_of (n := 63) (k := 6) (x := "script") (CX := fun w => (CX1 l.prog w)) (sp := fun w => spLaw (K w.params)) hn (by decide) hdf ⟨rfl, by decide, by decide⟩ hY F (fun _ _ a ns hl _ hS => ⟨a, ns, rfl, hS, hl, fun _ => rfl⟩) (fun _ _ _ _ _ ⟨_, _, _, _, _, _, _, F⟩ => F.wish)
end FT
open PySem PySem.W PyProof.Rows
set_option maxRecDepth 100000 in
set_option maxHeartbeats 0 in
theorem PySem.Challenge.cw_firetree_k08_texts_read_holds : PySem.Challenge.rw_firetree_k08_texts_read.Holds := by
  w_on; o_law; k_head; (case hw => w_witness2)
  k_fill
  refine FT.walk (l := PySem.Challenge.rw_firetree_k08_texts_read) rfl rfl (fun w h Y => PySem.W.kIn_of Y) ?F
  case F =>
    intro w mg fa h KX G hmg
    refine' FT.all_mk KX G hmg ?aC ?a1 ?l1 ?c1 ?k1 ?a2 ?l2 ?c2 ?k2 ?a3 ?l3 ?c3 ?k3 ?a4 ?l4 ?c4 ?k4 ?a5 ?l5 ?c5 ?k5 ?a6 ?l6 ?c6 ?k6 ?a7 ?l7 ?c7 ?k7 ?a8 ?l8 ?c8 ?k8 ?a9 ?l9 ?c9 ?k9 ?a10 ?l10 ?c10 ?k10 ?a11 ?l11 ?c11 ?k11 ?a12 ?l12 ?c12 ?k12 ?a13 ?l13 ?c13 ?k13 ?a14 ?l14 ?c14 ?k14 ?a15 ?l15 ?c15 ?k15 ?a16 ?l16 ?c16 ?k16 ?a17 ?l17 ?c17 ?k17 ?a18 ?i18 ?l18 ?c18 ?k18 ?a19 ?i19 ?l19 ?c19 ?k19 ?a20 ?i20 ?l20 ?c20 ?k20 ?pg ?hd ?po ?sa ?mk ?kc ?na0 ?na1 ?co0 ?co1 ?co2 ?z0 ?z1 ?z2 ?z3 ?z4 ?z5 ?z6 ?z7 ?z8 ?z9 ?z10 ?z11 ?z12 ?z13 ?ki0 ?nB ?nN ?nP ?nT ?nF ?xB1 ?xB2 ?xB3 ?xB4 ?xB5 ?xB6 ?xT1 ?xT2 ?xT3 ?xT4 ?xT5 ?xT6 ?xT7 ?xT8 ?xB9 ?yTB ?yTN ?yTP ?yTT ?yTF ?gt ?tk ?nFG ?oa ?om
    (case aC => k_is)
    (case a1 => k_is)
    (case l1 => k_is)
    (case c1 => k_is)
    (case k1 => k_is)
    (case a2 => k_is)
    (case l2 => k_is)
    (case c2 => k_is)
    (case k2 => k_is)
    (case a3 => k_is)
    (case l3 => k_is)
    (case c3 => k_is)
    (case k3 => k_is)
    (case a4 => k_is)
    (case l4 => k_is)
    (case c4 => k_is)
    (case k4 => k_is)
    (case a5 => k_is)
    (case l5 => k_is)
    (case c5 => k_is)
    (case k5 => k_is)
    (case a6 => k_is)
    (case l6 => k_is)
    (case c6 => k_is)
    (case k6 => k_is)
    (case a7 => k_is)
    (case l7 => k_is)
    (case c7 => k_is)
    (case k7 => k_is)
    (case a8 => k_is)
    (case l8 => k_is)
    (case c8 => k_is)
    (case k8 => k_is)
    (case a9 => k_is)
    (case l9 => k_is)
    (case c9 => k_is)
    (case k9 => k_is)
    (case a10 => k_is)
    (case l10 => k_is)
    (case c10 => k_is)
    (case k10 => k_is)
    (case a11 => k_is)
    (case l11 => k_is)
    (case c11 => k_is)
    (case k11 => k_is)
    (case a12 => k_is)
    (case l12 => k_is)
    (case c12 => k_is)
    (case k12 => k_is)
    (case a13 => k_is)
    (case l13 => k_is)
    (case c13 => k_is)
    (case k13 => k_is)
    (case a14 => k_is)
    (case l14 => k_is)
    (case c14 => k_is)
    (case k14 => k_is)
    (case a15 => k_is)
    (case l15 => k_is)
    (case c15 => k_is)
    (case k15 => k_is)
    (case a16 => k_is)
    (case l16 => k_is)
    (case c16 => k_is)
    (case k16 => k_is)
    (case a17 => k_is)
    (case l17 => k_is)
    (case c17 => k_is)
    (case k17 => k_is)
    (case a18 => k_is)
    (case i18 => k_is)
    (case l18 => k_is)
    (case c18 => k_is)
    (case k18 => k_is)
    (case a19 => k_is)
    (case i19 => k_is)
    (case l19 => k_is)
    (case c19 => k_is)
    (case k19 => k_is)
    (case a20 => k_is)
    (case i20 => k_is)
    (case l20 => k_is)
    (case c20 => k_is)
    (case k20 => k_is)
    (case pg => k_is)
    (case hd => k_is)
    (case po => k_is)
    (case sa => k_is)
    (case mk => k_is)
    (case kc => k_is)
    (case na0 => k_is)
    (case na1 => k_is)
    (case co0 => k_is)
    (case co1 => k_is)
    (case co2 => k_is)
    (case z0 => k_is)
    (case z1 => k_is)
    (case z2 => k_is)
    (case z3 => k_is)
    (case z4 => k_is)
    (case z5 => k_is)
    (case z6 => k_is)
    (case z7 => k_is)
    (case z8 => k_is)
    (case z9 => k_is)
    (case z10 => k_is)
    (case z11 => k_is)
    (case z12 => k_is)
    (case z13 => k_is)
    (case ki0 => first | rfl | k_is | kit_is)
    (case nB => k_is)
    (case nN => k_is)
    (case nP => k_is)
    (case nT => k_is)
    (case nF => k_is)
    (case xB1 => k_is)
    (case xB2 => k_is)
    (case xB3 => k_is)
    (case xB4 => k_is)
    (case xB5 => k_is)
    (case xB6 => k_exc)
    (case xT1 => k_is)
    (case xT2 => k_is)
    (case xT3 => k_is)
    (case xT4 => k_is)
    (case xT5 => k_is)
    (case xT6 => k_exc)
    (case xT7 => kts_exm)
    (case xT8 => kit_is)
    (case xB9 => first | kts_exm | rfl | k_is)
    (case yTB => first | rfl | kit_is)
    (case yTN => first | rfl | kit_is)
    (case yTP => first | rfl | kit_is)
    (case yTT => first | rfl | kit_is)
    (case yTF => first | rfl | kit_is)
    (case gt => k_is)
    (case tk => k_is)
    (case nFG => k_is)
    (case oa => k_is)
    (case om => k_is)
#print axioms PySem.Challenge.cw_firetree_k08_texts_read_holds
