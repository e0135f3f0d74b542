import PyProof.Rows.All
import Wide.All
import OpenK.AllK
import Wide.FinOn
import Lean
import PyProof.EqAt
import PyProof.EqKinds
import PyProof.TupleCall
import PyProof.NeKinds
import PyProof.EnumIter
import PyProof.EnumMake
import PyProof.ExcArgs
import PyProof.WalkInts
import PyProof.SeqI3
import PyProof.ZipIter
import PyProof.StrLoop
import PyProof.ConsumeWalk
import PyProof.StrLawsTight
import PyProof.StrLawsChain
import PyProof.Rows.StrItems
import PySem.Challenge.RW_firetree_k07_written_and_read
set_option Elab.async false
set_option linter.all false
set_option maxRecDepth 100000
namespace L2
open PySem PySem.Spec PyProof.Rows
/-- a key: an int or a str -/
abbrev Key := Sum Int Str
def keyIs : Key → Value → Bool
  | .inl k, v => Value.isInt k v
  | .inr x, v => Value.isStrOf x v
def keyH (w : World) : Key → Int
  | .inl k => hashInt k
  | .inr x => hashStr w x
theorem keyIs_shape : ∀ {k : Key} {v : Value}, keyIs k v = true → (∃ i t, k = Sum.inl i ∧ v = Value.int i t) ∨ (∃ x t, k = Sum.inr x ∧ v = Value.str x t)
  | .inl i, v, h => by
    obtain ⟨t, e⟩ := Value.isInt_shape (k := i) (v := v) h
    exact .inl ⟨i, t, rfl, e⟩
  | .inr x, v, h => by
    obtain ⟨t, e⟩ := Value.isStrOf_shape (x := x) (v := v) h
    exact .inr ⟨x, t, rfl, e⟩
theorem key_ll (a b : Int) : decide ((Sum.inl a : Key) = Sum.inl b) = (a == b) := by
  by_cases e : a = b
  · subst e; simp
  · have h : ¬ (Sum.inl a : Key) = Sum.inl b := fun q => e (Sum.inl.inj q)
    rw [decide_eq_false h]
    exact (beq_eq_false_iff_ne.mpr e).symm
theorem key_rr (a b : Str) : decide ((Sum.inr a : Key) = Sum.inr b) = decide (a = b) := by
  by_cases e : a = b
  · subst e; simp
  · have h : ¬ (Sum.inr a : Key) = Sum.inr b := fun q => e (Sum.inr.inj q)
    rw [decide_eq_false h, decide_eq_false e]
theorem key_lr (a : Int) (b : Str) : decide ((Sum.inl a : Key) = Sum.inr b) = false := decide_eq_false (fun q => nomatch q)
theorem key_rl (a : Str) (b : Int) : decide ((Sum.inr a : Key) = Sum.inl b) = false := decide_eq_false (fun q => nomatch q)
def mixKind (prog : Program) (w : World) : PySem.KeyKind prog w Key where
  is := keyIs
  hash := keyH w
  inj := fun v a b ha hb => by
    rcases keyIs_shape ha with ⟨i, t, rfl, rfl⟩ | ⟨x, t, rfl, rfl⟩
    · rcases keyIs_shape hb with ⟨j, u, rfl, e⟩ | ⟨y, u, rfl, e⟩
      · injection e with e1 _; rw [e1]
      · exact nomatch e
    · rcases keyIs_shape hb with ⟨j, u, rfl, e⟩ | ⟨y, u, rfl, e⟩
      · exact nomatch e
      · injection e with e1 _; rw [e1]
  byValue := fun k v h => by
    rcases keyIs_shape h with ⟨i, t, rfl, rfl⟩ | ⟨x, t, rfl, rfl⟩ <;> rfl
  pyHash := fun hv h => by
    rcases keyIs_shape hv with ⟨i, t, rfl, rfl⟩ | ⟨x, t, rfl, rfl⟩
    · exact wpAny_pyHash_int h
    · exact wpAny_pyHash_str h
  eqBool := fun hu hv h => by
    rcases keyIs_shape hu with ⟨i, t, rfl, rfl⟩ | ⟨x, t, rfl, rfl⟩
    · rcases keyIs_shape hv with ⟨j, u, rfl, rfl⟩ | ⟨y, u, rfl, rfl⟩
      · rw [key_ll] at h; exact wpAny_eqBool_int h
      · rw [key_lr] at h; exact SeqAt.EqAt.int_str i t y u _ _ _ _ h
    · rcases keyIs_shape hv with ⟨j, u, rfl, rfl⟩ | ⟨y, u, rfl, rfl⟩
      · rw [key_rl] at h; exact SeqAt.EqAt.str_int x t j u _ _ _ _ h
      · rw [key_rr] at h; exact wpAny_eqBool_str h
  «strs» := fun k x t v h => by
    rcases keyIs_shape h with ⟨i, u, rfl, e⟩ | ⟨y, u, rfl, e⟩
    · exact nomatch e
    · injection e with e1 _
      subst e1
      cases v <;> rfl
end L2
namespace L2
open PySem PySem.Spec PyProof.Rows
/-- a value, without the heap -/
inductive V where
  | non | bl (b : Bool) | int (i : Int) | str (x : Str) | byt (b : Array UInt8) | flt (b : UInt64) | ref (a : Addr) | ty (n : String)
  deriving DecidableEq
def RelV : V → Value → Prop
  | .non, u => u = Value.none
  | .bl b, u => u = Value.bool b
  | .int i, u => ∃ t, u = Value.int i t
  | .str x, u => ∃ t, u = Value.str x t
  | .byt b, u => ∃ t, u = Value.bytes b t
  | .flt b, u => ∃ t, u = Value.float b t
  | .ref a, u => u = Value.ref a
  | .ty n, u => u = Value.type n
abbrev Vals : List V → List Value → Prop := Paired RelV
theorem Vals.length {xs : List V} {us : List Value} (r : Vals xs us) : xs.length = us.length := Paired.length r
theorem Vals.get : ∀ {xs : List V} {us : List Value} {i : Nat} {x : V}, Vals xs us → xs[i]? = some x → ∃ u, us[i]? = some u ∧ RelV x u
  | _, _, _, _, .nil, e => by simp at e
  | _, _, 0, _, .cons r _, e => by simp at e; subst e; exact ⟨_, rfl, r⟩
  | _, _, i + 1, x, .cons _ t, e => by
    obtain ⟨u, h1, h2⟩ := Vals.get (i := i) (x := x) t (by simpa using e)
    exact ⟨u, by simpa using h1, h2⟩
theorem Vals.append : ∀ {xs ys : List V} {us ws : List Value}, Vals xs us → Vals ys ws → Vals (xs ++ ys) (us ++ ws)
  | _, _, _, _, .nil, s => s
  | _, _, _, _, .cons r t, s => .cons r (Vals.append t s)
theorem Vals.take : ∀ {xs : List V} {us : List Value} (n : Nat), Vals xs us → Vals (xs.take n) (us.take n)
  | _, _, 0, _ => .nil
  | _, _, _ + 1, .nil => .nil
  | _, _, n + 1, .cons r t => .cons r (Vals.take n t)
theorem Vals.drop : ∀ {xs : List V} {us : List Value} (n : Nat), Vals xs us → Vals (xs.drop n) (us.drop n)
  | _, _, 0, r => r
  | _, _, _ + 1, .nil => .nil
  | _, _, n + 1, .cons _ t => Vals.drop n t
def RelO : Option V → Option Value → Prop
  | some v, some u => RelV v u
  | none, none => True
  | _, _ => False
def KV {κ : Type} : List (κ × V) → List (κ × Value) → Prop := Paired fun (p : κ × V) (q : κ × Value) => p.1 = q.1 ∧ RelV p.2 q.2
/-- a key of a dict (00_mix): an int or a text -/
def kV : Key → V
  | .inl i => .int i
  | .inr x => .str x
/-- what stands at a tracked address -/
inductive HO where
  /-- a list -/
  | lst (xs : List V)
  /-- a tuple (never changes) -/
  | tup (xs : List V)
  /-- a dict whose keys are ints and texts; one whose keys are tuples of ints and texts (the empty one is both) -/
  | dK (kvs : List (Key × V)) | dT (kvs : List (List Key × V))
  /-- a set of ints: its members, its size -/
  | set (S : Int → Bool) (n : Nat)
  /-- an instance of the class at C, its dict at dx, its attributes -/
  | ins (C dx : Addr) (fs : List (Str × V))
  /-- the dict of the instance at x -/
  | own (x : Addr)
  /-- the dict of an exception -/
  | xd (fs : List (Str × V))
  /-- a bound method, f of x -/
  | met (f x : Addr)
  /-- a range object lo, lo + 1, .. below hi -/
  | rng (lo hi : Int)
  /-- a thing that is known to the object (the script; a dict while a loop walks it): read, never written while it is so -/
  | frz (o : Obj) (u : HO)
  /-- a code object's table -/
  | tbl (ps : Array Value)
  /-- any other thing, by what is true of its one object (a def of one's own: SetO a S n := HO.ext fun h => ..) -/
  | ext (φ : Heap → Prop)
abbrev Hp := Addr → Option HO
def upd (H : Hp) (a : Addr) (o : HO) : Hp := fun b => if b = a then some o else H b
theorem upd_same {H : Hp} {a : Addr} {o : HO} : upd H a o a = some o := by unfold upd; rw [if_pos rfl]
theorem upd_ne {H : Hp} {a b : Addr} {o : HO} (h : b ≠ a) : upd H a o b = H b := by unfold upd; rw [if_neg h]
/-- two objects of different content stand apart -/
theorem ne_of {H : Hp} {a b : Addr} {o u : HO} (h : H a = some o) (h' : H b = some u) (d : o ≠ u) : a ≠ b := by
  intro e; subst e; rw [h] at h'; exact d (Option.some.inj h')
theorem ne_of_none {H : Hp} {a b : Addr} {o : HO} (h : H a = some o) (h' : H b = none) : a ≠ b := by
  intro e; subst e; rw [h] at h'; cases h'
section
variable (P : Program) (w : World)
def ObjOk (H : Hp) (h : Heap) (a : Addr) : HO → Prop
  | .lst xs => xs.length ≤ sizeLine ∧ ∃ (its : List Value) (n : Nat), Vals xs its ∧ h.get? a = some { cls := .type "list", data := .seq its.toArray n }
  | .tup xs => xs.length ≤ sizeLine ∧ ∃ its : List Value, Vals xs its ∧ IsTup h a its.toArray
  | .dK kvs => kvs.length ≤ sizeLine ∧ (a == sysModules) = false ∧ ∃ vs, KV kvs vs ∧ h.DictOf (mixKind P w) a vs
  | .dT kvs => kvs.length ≤ sizeLine ∧ (a == sysModules) = false ∧ ∃ xs : List (List Key × Addr × Value),
      Paired (fun (p : List Key × V) (q : List Key × Addr × Value) => p.1 = q.1 ∧ H q.2.1 = some (.tup (p.1.map kV)) ∧ RelV p.2 q.2.2) kvs xs ∧
      ∃ o es ep, h.get? a = some o ∧ o.ExactDict ∧ o.data = .dict es ep ∧ es.toList = xs.map (entryOfKey (tupleKind (mixKind P w))) ∧ (xs.map (·.1)).Nodup
  | .set S n => h.SetOf (intKind P w) a S n
  | .ins C dx fs => H dx = some (.own a) ∧ fs.length ≤ 1000 ∧ dx ≠ a ∧ h.get? a = some (PySem.W.instObj C dx) ∧
      ∃ mA, h.Ns1 dx mA ∧ (∀ f, RelO (fs.lookup f) (mA f)) ∧ PySem.Within mA (fs.map (·.1))
  | .own _ => ∃ o, h.get? a = some o
  | .xd fs => ∃ mA, h.Ns1 a mA ∧ ∀ f, RelO (fs.lookup f) (mA f)
  | .rng lo hi => ∃ t u v, h.get? a = some { cls := .type "range", data := .fields #[.int lo t, .int hi u, .int 1 v] }
  | .frz o u => h.get? a = some o ∧ ObjOk H h a u
  | .tbl ps => h.get? a = some { cls := .none, data := .fields ps }
  | .met f x => h.get? a = some (PySem.W.methodObj (.ref f) (.ref x))
  | .ext φ => φ h ∧ (∃ o, h.get? a = some o) ∧ ∀ h1 h2 : Heap, φ h1 → (∀ o, h1.get? a = some o → h2.get? a = some o) → φ h2
/-- the abstract heap is held -/
def HOk (H : Hp) (h : Heap) : Prop := ∀ a o, H a = some o → ObjOk P w H h a o
end
section
variable {P : Program} {w : World} {H H' : Hp} {h h' : Heap} {a : Addr} {o : HO}
theorem ObjOk.lt (x : ObjOk P w H h a o) : a < h.objs.size := by
  cases o with
  | lst xs => obtain ⟨_, _, _, _, e⟩ := x; exact Heap.lt_size e
  | tup xs => obtain ⟨_, _, _, p⟩ := x; exact p.lt
  | dK kvs => obtain ⟨_, _, _, _, o, _, _, e, _⟩ := x; exact Heap.lt_size e
  | dT kvs => obtain ⟨_, _, _, _, o, _, _, e, _⟩ := x; exact Heap.lt_size e
  | set S n => obtain ⟨o, _, _, _, e, _⟩ := x; exact Heap.lt_size e
  | ins C dx fs => obtain ⟨_, _, _, e, _⟩ := x; exact Heap.lt_size e
  | own y => obtain ⟨_, e⟩ := x; exact Heap.lt_size e
  | xd fs => obtain ⟨_, ⟨_, _, _, e, _⟩, _⟩ := x; exact Heap.lt_size e
  | rng lo hi => obtain ⟨_, _, _, e⟩ := x; exact Heap.lt_size e
  | frz ob u => obtain ⟨e, _⟩ := x; exact Heap.lt_size e
  | tbl ps => exact Heap.lt_size (show h.get? a = some _ from x)
  | met f y => exact Heap.lt_size (show h.get? a = some _ from x)
  | ext φ => obtain ⟨_, ⟨_, e⟩, _⟩ := x; exact Heap.lt_size e
theorem Paired.mapP {α β : Type} {F G : α → β → Prop} : ∀ {l₁ : List α} {l₂ : List β}, Paired F l₁ l₂ → (∀ a b, F a b → G a b) → Paired G l₁ l₂
  | _, _, .nil, _ => .nil
  | _, _, .cons r t, f => .cons (f _ _ r) (Paired.mapP t f)
/-- what an object's description leans on: its own object, its own dict, the tuples -/
theorem ObjOk.stay (x : ObjOk P w H h a o) (k : ∀ b u, (b = a ∨ H b = some (.own a)) → h.get? b = some u → h'.get? b = some u)
    (ho : ∀ b, H b = some (.own a) → H' b = some (.own a)) (ht : ∀ b xs, H b = some (.tup xs) → H' b = some (.tup xs)) : ObjOk P w H' h' a o := by
  induction o with
  | lst xs => obtain ⟨z, its, n, r, e⟩ := x; exact ⟨z, its, n, r, k _ _ (.inl rfl) e⟩
  | tup xs => obtain ⟨z, its, r, ob, e, c⟩ := x; exact ⟨z, its, r, ob, k _ _ (.inl rfl) e, c⟩
  | dK kvs => obtain ⟨z, y, vs, r, ob, es, ep, e, c⟩ := x; exact ⟨z, y, vs, r, ob, es, ep, k _ _ (.inl rfl) e, c⟩
  | dT kvs =>
    obtain ⟨z, y, xs, r, ob, es, ep, e, c⟩ := x
    exact ⟨z, y, xs, Paired.mapP r fun p q z => ⟨z.1, ht _ _ z.2.1, z.2.2⟩, ob, es, ep, k _ _ (.inl rfl) e, c⟩
  | set S n => obtain ⟨ob, es, ep, t, e, c⟩ := x; exact ⟨ob, es, ep, t, k _ _ (.inl rfl) e, c⟩
  | ins C dx fs =>
    obtain ⟨d, z, ne, e, mA, ⟨od, es, ep, e2, c⟩, r⟩ := x
    exact ⟨ho _ d, z, ne, k _ _ (.inl rfl) e, mA, ⟨od, es, ep, k _ _ (.inr d) e2, c⟩, r⟩
  | own y => obtain ⟨ob, e⟩ := x; exact ⟨ob, k _ _ (.inl rfl) e⟩
  | xd fs => obtain ⟨mA, ⟨od, es, ep, e, c⟩, r⟩ := x; exact ⟨mA, ⟨od, es, ep, k _ _ (.inl rfl) e, c⟩, r⟩
  | rng lo hi => obtain ⟨t, u, v, e⟩ := x; exact ⟨t, u, v, k _ _ (.inl rfl) e⟩
  | frz ob u ih => obtain ⟨e, q⟩ := x; exact ⟨k _ _ (.inl rfl) e, ih q⟩
  | tbl ps =>
    have e : h.get? a = some { cls := .none, data := .fields ps } := x
    show h'.get? a = some { cls := .none, data := .fields ps }
    exact k a _ (.inl rfl) e
  | met f y =>
    have e : h.get? a = some (PySem.W.methodObj (.ref f) (.ref y)) := x
    show h'.get? a = some (PySem.W.methodObj (.ref f) (.ref y))
    exact k a _ (.inl rfl) e
  | ext φ => obtain ⟨p, ⟨o, e⟩, st⟩ := x; exact ⟨st _ _ p fun o q => k _ _ (.inl rfl) q, ⟨o, k _ _ (.inl rfl) e⟩, st⟩
theorem HOk.lt (x : HOk P w H h) (e : H a = some o) : a < h.objs.size := (x a o e).lt
theorem HOk.fresh (x : HOk P w H h) (e : h.objs.size ≤ a) : H a = none := by
  cases q : H a with
  | none => rfl
  | some u => exact absurd (Nat.lt_of_lt_of_le (x.lt q) e) (Nat.lt_irrefl _)
/-- every object of the heap is kept -/
theorem HOk.kept (x : HOk P w H h) (k : ∀ b u, h.get? b = some u → h'.get? b = some u) : HOk P w H h' := fun a o e =>
  (x a o e).stay (fun b u _ q => k b u q) (fun _ q => q) fun _ _ q => q
/-- a new object is laid and tracked -/
theorem HOk.laid (x : HOk P w H h) (k : ∀ b u, h.get? b = some u → h'.get? b = some u) (hp : h.objs.size ≤ a) (new : ObjOk P w (upd H a o) h' a o) : HOk P w (upd H a o) h' := fun b u e => by
  have hn := x.fresh hp
  by_cases hb : b = a
  · subst hb; rw [upd_same] at e; cases e; exact new
  · rw [upd_ne hb] at e
    exact (x b u e).stay (fun c v _ q => k c v q) (fun c q => by rw [upd_ne (ne_of_none q hn)]; exact q) fun c xs q => by rw [upd_ne (ne_of_none q hn)]; exact q
end
/-- what may be read as u: it is u, or a known u -/
def Rd (H : Hp) (a : Addr) (u : HO) : Prop := H a = some u ∨ ∃ o, H a = some (.frz o u)
theorem Rd.ok {P : Program} {w : World} {H : Hp} {h : Heap} {a : Addr} {u : HO} (r : Rd H a u) (x : HOk P w H h) : ObjOk P w H h a u := by
  rcases r with r | ⟨o, r⟩
  · exact x a u r
  · obtain ⟨_, q⟩ := x a _ r
    exact q
/-- what may be written -/
def Mut : Option HO → Prop
  | some (.lst _) => True
  | some (.dK _) => True
  | some (.dT _) => True
  | some (.set _ _) => True
  | some (.ins _ _ _) => True
  | some (.ext _) => True
  | _ => False
section
variable {P : Program} {w : World} {H : Hp} {h h' : Heap} {x e : Addr} {o' : HO}
/-- the object at e is changed: x itself, or the dict of the instance x -/
theorem HOk.write (ok : HOk P w H h) (mu : Mut (H x)) (he : e = x ∨ H e = some (.own x)) (k : ∀ b u, b ≠ e → h.get? b = some u → h'.get? b = some u) (heo : ∃ u, h'.get? e = some u)
    (new : ObjOk P w (upd H x o') h' x o') : HOk P w (upd H x o') h' := fun b u q => by
  have nown : ∀ c y, H c = some (.own y) → c ≠ x := fun c y r z => by subst z; rw [r] at mu; exact mu
  have ntup : ∀ c xs, H c = some (.tup xs) → c ≠ x := fun c xs r z => by subst z; rw [r] at mu; exact mu
  by_cases hb : b = x
  · subst hb; rw [upd_same] at q; cases q; exact new
  · rw [upd_ne hb] at q
    by_cases hbe : b = e
    · have q' : H b = some (.own x) := by
        rcases he with z | z
        · exact absurd (hbe.trans z) hb
        · rw [hbe]; exact z
      rw [q] at q'; cases q'
      obtain ⟨v, hv⟩ := heo
      exact ⟨v, by rw [hbe]; exact hv⟩
    · refine (ok b u q).stay (fun c v hc r => k c v ?_ r) (fun c r => by rw [upd_ne (nown c b r)]; exact r) fun c xs r => by rw [upd_ne (ntup c xs r)]; exact r
      rcases hc with rfl | hc
      · exact hbe
      · rintro rfl
        rcases he with z | z
        · exact nown c b hc z
        · rw [hc] at z; cases z; exact hb rfl
end
structure Un (fs ex : List Addr) (H H' : Hp) (h h' : Heap) : Prop where
  keep : ∀ b o, h.get? b = some o → H b = none → b ∉ fs → b ∉ ex → h'.get? b = some o
  slot : ∀ b o, h.get? b = some o → H b = none → b ∈ fs → b ∉ ex → ∃ sl, h'.get? b = some { o with slots := sl }
  free : ∀ b o, h.get? b = some o → H b = none → b ∉ ex → H' b = none
  there : ∀ b o, h.get? b = some o → b ∉ ex → ∃ o', h'.get? b = some o'
  tups : ∀ b xs, H b = some (.tup xs) → H' b = some (.tup xs)
  frzs : ∀ b o u, H b = some (.frz o u) → H' b = some (.frz o u)
  tbls : ∀ b ps, H b = some (.tbl ps) → ∃ more, H' b = some (.tbl (ps ++ more))
section
variable {fs fs' ex ex' : List Addr} {H H1 H2 : Hp} {h h1 h2 h' : Heap} {a x e : Addr} {o : HO}
theorem Un.any (u : Un fs ex H H1 h h1) {b : Addr} {ob : Obj} (q : h.get? b = some ob) (n : H b = none) (hx : b ∉ ex) : ∃ sl, h1.get? b = some { ob with slots := sl } := by
  by_cases hb : b ∈ fs
  · exact u.slot b ob q n hb hx
  · exact ⟨ob.slots, u.keep b ob q n hb hx⟩
theorem Un.kept (k : ∀ b u, h.get? b = some u → h'.get? b = some u) : Un fs ex H H h h' :=
  ⟨fun b ob q _ _ _ => k b ob q, fun b ob q _ _ _ => ⟨ob.slots, k b ob q⟩, fun _ _ _ n _ => n, fun b ob q _ => ⟨ob, k b ob q⟩, fun _ _ q => q, fun _ _ _ q => q, fun _ ps q => ⟨#[], by rw [q]; simp⟩⟩
theorem Un.refl : Un fs ex H H h h := Un.kept fun _ _ q => q
theorem Un.laid (k : ∀ b u, h.get? b = some u → h'.get? b = some u) (hp : h.objs.size ≤ a) (hn : H a = none) : Un fs ex H (upd H a o) h h' where
  keep := fun b u q _ _ _ => k b u q
  slot := fun b u q _ _ _ => ⟨u.slots, k b u q⟩
  free := fun b u q n _ => by rw [upd_ne (Nat.ne_of_lt (Nat.lt_of_lt_of_le (Heap.lt_size q) hp))]; exact n
  there := fun b u q _ => ⟨u, k b u q⟩
  tups := fun b xs q => by rw [upd_ne (ne_of_none q hn)]; exact q
  frzs := fun b u xs q => by rw [upd_ne (ne_of_none q hn)]; exact q
  tbls := fun b ps q => ⟨#[], by rw [upd_ne (ne_of_none q hn), q]; simp⟩
theorem Un.write (mu : Mut (H x)) (he : e = x ∨ H e = some (.own x)) (k : ∀ b u, b ≠ e → h.get? b = some u → h'.get? b = some u) (heo : ∃ u, h'.get? e = some u) : Un fs ex H (upd H x o) h h' := by
  have hx : ∀ b, H b = none → b ≠ x := fun b n z => by subst z; rw [n] at mu; exact mu
  have hb : ∀ b, H b = none → b ≠ e := fun b n z => by
    subst z
    rcases he with r | r
    · exact hx b n r
    · rw [n] at r; cases r
  have hm : ∀ b u, H b = some u → ¬ Mut (some u) → b ≠ x := fun b u q nm z => by subst z; rw [q] at mu; exact nm mu
  refine ⟨fun b u q n _ _ => k b u (hb b n) q, fun b u q n _ _ => ⟨u.slots, k b u (hb b n) q⟩, fun b u q n _ => by rw [upd_ne (hx b n)]; exact n, fun b u q _ => ?_,
    fun b xs q => by rw [upd_ne (hm b _ q fun z => z)]; exact q, fun b u xs q => by rw [upd_ne (hm b _ q fun z => z)]; exact q, fun b ps q => ⟨#[], by rw [upd_ne (hm b _ q fun z => z), q]; simp⟩⟩
  by_cases hbe : b = e
  · subst hbe; exact heo
  · exact ⟨u, k b u hbe q⟩
end
def trk (h : Heap) (H : Hp) : List Addr := (List.range h.objs.size).filter fun a => (H a).isSome
def hidT (h : Heap) (H : Hp) : Heap := PySem.W.hideAll h (trk h H)
theorem hidT_size (h : Heap) (H : Hp) : (hidT h H).objs.size = h.objs.size := PySem.W.hideAll_size _ _
theorem hidT_get {h : Heap} {H : Hp} {b : Addr} {o : Obj} (e : h.get? b = some o) (n : H b = none) : (hidT h H).get? b = some o :=
  PySem.W.hideAll_get _ e fun hm => by
    have q : (H b).isSome = true := (List.mem_filter.mp hm).2
    rw [n] at q; simp at q
theorem of_hidT {h : Heap} {H : Hp} {b : Addr} {o : Obj} (e : (hidT h H).get? b = some o) : h.get? b = some o ∧ H b = none := by
  have e' : h.get? b = some o := PySem.W.of_hideAll (trk h H) e
  refine ⟨e', ?_⟩
  cases q : H b with
  | none => rfl
  | some x =>
    have hm : b ∈ trk h H := List.mem_filter.mpr ⟨List.mem_range.mpr (Heap.lt_size e'), by simp [q]⟩
    have z : (hidT h H).get? b = none := PySem.W.hideAll_none (trk h H) hm
    rw [z] at e; cases e
end L2
namespace L2
open PySem PySem.Spec PyProof.Rows
/-- the module's facts, over the base: the heap at the law's entry without what is tracked there -/
structure Mod (K : PySem.W.Frag) (mg : Str → Option Value) (base : Heap) : Prop where
  kin : K.In base
  glob : base.Ns mainGlobals mg
  blt : ∃ mb, base.Ns builtinsNs mb ∧ ∀ x : Str, x ≠ "__name__" → mb x = bootBuiltins x
  nolimit : base.NoLimit
/-- the context: a def's body (or a comprehension's block) running. base: fixed through the whole law; s₀, H₀: the entry; outer: the frames whose slots others may change (a def's callers); stack: all frames that run;
   ex: iterators that were made ahead of the entry and are walked here (a comprehension's); fn: the names whose cells were made at the entry (a def: all; a comprehension's block: its own); calm: not within an except suite; pn: pins that every state bears; xe: what is wanted of an exception that leaves the code -/
structure Cx where
  prog : Program
  w : World
  K : PySem.W.Frag
  mg : Str → Option Value
  base : Heap
  A : Around
  N : List Str
  s₀ : Shared
  H₀ : Hp
  env : Env
  outer : List Env
  stack : List Env
  ex : List Addr
  fn : Str → Bool
  calm : Bool
  pn : List (Addr × Obj)
  xe : Value → Shared → Prop
/-- the callers' frames -/
def frs (l : List Env) : List Addr := l.filterMap (·.frame)
abbrev Cx.fs (X : Cx) : List Addr := frs X.outer
def Vis (sc : Scope) (x : Str) : Prop := sc.names.lookup x = some .local ∨ sc.names.lookup x = some .cell ∨ sc.names.lookup x = some .free
def Loc (sc : Scope) (x : Str) : Prop := sc.names.lookup x = some .local ∨ sc.names.lookup x = some .cell
def Look (env : Env) (h : Heap) (m : Str → Option Value) (x : Str) (u : Value) : Prop :=
  (env.kindOf x = some .local ∧ m x = some u) ∨ ((env.kindOf x = some .cell ∨ env.kindOf x = some .free) ∧ ∃ c, env.cells.lookup x = some c ∧ h.IsCell c (some u))
structure Cx.Ok (X : Cx) : Prop where
  mod : Mod X.K X.mg X.base
  kind : X.env.scope.kind = .function
  glob : X.env.globals = mainGlobals
  blt : X.env.builtins = builtinsNs
  above : X.s₀.heap.objs.size ≤ X.env.locals
  inj : ∀ x y c, X.env.cells.lookup x = some c → X.env.cells.lookup y = some c → x = y
  has : ∀ x, (X.env.kindOf x = some .cell ∨ X.env.kindOf x = some .free) → ∃ c, X.env.cells.lookup x = some c
  cab : ∀ x c, X.fn x = true → X.env.cells.lookup x = some c → X.s₀.heap.objs.size ≤ c
  hd : X.calm = true → X.A.handled = none
  frames : X.A.frames = some X.stack
  stk : X.stack = X.outer ∨ (X.stack = X.env :: X.outer ∧ X.env.frame = some X.env.locals)
  exf : ∀ b ∈ X.ex, b ≠ X.env.locals ∧ ∀ x c, X.env.cells.lookup x = some c → c ≠ b
  bs : ∀ b o, X.base.get? b = some o → X.s₀.heap.get? b = some o ∧ X.H₀ b = none
  bsz : X.base.objs.size ≤ X.s₀.heap.objs.size
  noex : ∀ b o, X.base.get? b = some o → b ∉ X.ex
  exfs : ∀ b ∈ X.ex, b ∉ X.fs
  funs : X.s₀.heap.FunFrames X.base X.outer
  frf : ∀ b ∈ X.fs, X.H₀ b = none
structure Inv (X : Cx) (pins : List (Addr × Obj)) (σ : List (Option V)) (H : Hp) (s : Shared) : Prop where
  ok : X.Ok
  os : s.os = X.s₀.os
  bare : AllBare s.gens
  base : Un X.fs X.ex X.H₀ H X.s₀.heap s.heap
  loc : ∃ m, s.heap.Ns X.env.locals m ∧ ∀ (i : Nat) (x : Str) (v : V), X.N[i]? = some x → σ[i]? = some (some v) → Vis X.env.scope x → ∃ u, RelV v u ∧ Look X.env s.heap m x u
  cell : ∀ x c, X.env.cells.lookup x = some c → ∃ v, s.heap.IsCell c v
  free : H X.env.locals = none
  freeC : ∀ x c, X.env.cells.lookup x = some c → H c = none
  pin : ∀ p ∈ X.pn ++ pins, s.heap.get? p.1 = some p.2 ∧ H p.1 = none ∧ p.1 ≠ X.env.locals ∧ p.1 ∉ X.fs ∧ ∀ v, p.2.data ≠ .cell v
  hok : HOk X.prog X.w H s.heap
  len : σ.length = X.N.length
section
variable {X : Cx} {pins : List (Addr × Obj)} {σ : List (Option V)} {H H' : Hp} {s : Shared} {h' : Heap}
theorem Cx.Ok.nofr (ok : X.Ok) {b : Addr} {o : Obj} (e : X.base.get? b = some o) : b ∉ X.fs := fun hb => by
  have := (ok.funs.mem hb).1
  rw [e] at this; cases this
theorem Inv.bs (I : Inv X pins σ H s) : ∀ b o, X.base.get? b = some o → s.heap.get? b = some o ∧ H b = none := fun b o e =>
  ⟨I.base.keep b o (I.ok.bs b o e).1 (I.ok.bs b o e).2 (I.ok.nofr e) (I.ok.noex b o e), I.base.free b o (I.ok.bs b o e).1 (I.ok.bs b o e).2 (I.ok.noex b o e)⟩
theorem Inv.bk (I : Inv X pins σ H s) : ∀ b o, X.base.get? b = some o → s.heap.get? b = some o := fun b o e => (I.bs b o e).1
theorem Inv.mod (I : Inv X pins σ H s) : Mod X.K X.mg X.base := I.ok.mod
theorem Inv.kIn (I : Inv X pins σ H s) : X.K.In s.heap := I.ok.mod.kin.keeps I.bk
theorem Inv.lt (I : Inv X pins σ H s) : X.env.locals < s.heap.objs.size := let ⟨_, hn, _⟩ := I.loc; hn.lt
theorem Inv.sz (I : Inv X pins σ H s) : X.s₀.heap.objs.size ≤ s.heap.objs.size := Nat.le_trans I.ok.above (Nat.le_of_lt I.lt)
theorem Inv.nofs (I : Inv X pins σ H s) {a : Addr} (h : s.heap.objs.size ≤ a) : a ∉ X.fs := fun hb => by
  obtain ⟨_, o, ho, _⟩ := I.ok.funs.mem hb
  exact absurd (Nat.lt_of_lt_of_le (Heap.lt_size ho) (Nat.le_trans I.sz h)) (Nat.lt_irrefl _)
theorem Inv.cne (I : Inv X pins σ H s) : ∀ x c, X.env.cells.lookup x = some c → c ≠ X.env.locals := fun x c e z => by
  obtain ⟨v, o, ho, hd⟩ := I.cell x c e
  obtain ⟨m, ⟨o', es, ep, ho', hd', _⟩, _⟩ := I.loc
  rw [z, ho'] at ho; cases ho; rw [hd'] at hd; cases hd
theorem Inv.funs (I : Inv X pins σ H s) : s.heap.FunFrames X.base X.outer := by
  have all : ∀ (l : List Env), (∀ b ∈ frs l, b ∈ X.fs) → X.s₀.heap.FunFrames X.base l → s.heap.FunFrames X.base l := by
    intro l
    induction l with
    | nil => intro _ _; trivial
    | cons env r ih =>
      intro hs hl
      obtain ⟨hk, ⟨L, o, hf, hn, ho, hd⟩, hr⟩ := hl
      have hL : L ∈ X.fs := hs L (by unfold frs; rw [List.filterMap_cons, hf]; exact List.mem_cons_self)
      obtain ⟨sl, e⟩ := I.base.slot L o ho (I.ok.frf L hL) hL fun z => I.ok.exfs L z hL
      exact ⟨hk, ⟨L, _, hf, hn, e, hd⟩, ih (fun b hb => hs b (by unfold frs; rw [List.filterMap_cons, hf]; exact List.mem_cons_of_mem _ hb)) hr⟩
  exact all X.outer (fun _ hb => hb) I.ok.funs
/-- the frames that run, for a call -/
theorem Inv.stack (I : Inv X pins σ H s) : s.heap.FunFrames X.base X.stack := by
  rcases I.ok.stk with e | ⟨e, hf⟩
  · rw [e]; exact I.funs
  · rw [e]
    obtain ⟨m, hn, _⟩ := I.loc
    refine .cons (by rw [I.ok.kind]; decide) hf hn ?_ I.funs
    exact Heap.get?_none_of_le (Nat.le_trans I.ok.bsz I.ok.above)
theorem Inv.stkSub (I : Inv X pins σ H s) : ∀ b ∈ frs X.stack, b ∈ X.env.locals :: X.fs := fun b hb => by
  rcases I.ok.stk with e | ⟨e, hf⟩
  · rw [e] at hb; exact List.mem_cons_of_mem _ hb
  · rw [e] at hb
    unfold frs at hb
    rw [List.filterMap_cons, hf] at hb
    exact hb
theorem Inv.stkFree (I : Inv X pins σ H s) : ∀ b ∈ frs X.stack, H b = none := fun b hb => by
  rcases List.mem_cons.mp (I.stkSub b hb) with e | hb
  · rw [e]; exact I.free
  · obtain ⟨_, o, ho, _⟩ := I.ok.funs.mem hb
    exact I.base.free b o ho (I.ok.frf b hb) fun z => I.ok.exfs b z hb
/-- THE STEP: the untracked objects but the frame and the records at ch are kept (the callers' frames up to slots), the frame's map is kept, the new abstract heap is held -/
theorem Inv.step {g' : Array GenState} {t' : Nat} {d' : Drawn} {ch : List Addr} (I : Inv X pins σ H s)
    (hch : ∀ b ∈ ch, (b ∈ X.ex ∨ X.s₀.heap.objs.size ≤ b) ∧ b ≠ X.env.locals ∧ (∀ x c, X.env.cells.lookup x = some c → c ≠ b) ∧ ∀ p ∈ X.pn ++ pins, p.1 ≠ b)
    (keep : ∀ b o, b ≠ X.env.locals → b ∉ X.fs → b ∉ ch → s.heap.get? b = some o → H b = none → h'.get? b = some o)
    (slot : ∀ b o, b ≠ X.env.locals → b ∈ X.fs → b ∉ ch → s.heap.get? b = some o → H b = none → ∃ sl, h'.get? b = some { o with slots := sl }) (free : ∀ b o, b ∉ ch → s.heap.get? b = some o → H b = none → H' b = none)
    (there : ∀ b o, b ∉ ch → s.heap.get? b = some o → ∃ o', h'.get? b = some o')
    (tups : ∀ b xs, H b = some (.tup xs) → H' b = some (.tup xs)) (frzs : ∀ b o u, H b = some (.frz o u) → H' b = some (.frz o u)) (tbls : ∀ b ps, H b = some (.tbl ps) → ∃ more, H' b = some (.tbl (ps ++ more)))
    (ns : ∀ m, s.heap.Ns X.env.locals m → h'.Ns X.env.locals m) (hok : HOk X.prog X.w H' h') (hg : AllBare g') :
    Inv X pins σ H' { s with heap := h', gens := g', drawn := d', toks := t' } := by
  have neL : ∀ b o, X.s₀.heap.get? b = some o → b ≠ X.env.locals := fun b o e => Nat.ne_of_lt (Nat.lt_of_lt_of_le (Heap.lt_size e) I.ok.above)
  have neC : ∀ b o, X.s₀.heap.get? b = some o → b ∉ X.ex → b ∉ ch := fun b o e hx hb => by
    rcases (hch b hb).1 with z | z
    · exact hx z
    · exact absurd (Nat.lt_of_lt_of_le (Heap.lt_size e) z) (Nat.lt_irrefl _)
  have cellK : ∀ x c, X.env.cells.lookup x = some c → ∀ v, s.heap.IsCell c v → h'.IsCell c v := fun x c e v ⟨o, ho, hd⟩ => by
    have nch : c ∉ ch := fun z => (hch c z).2.2.1 x c e rfl
    by_cases hc : c ∈ X.fs
    · obtain ⟨sl, q⟩ := slot c o (I.cne x c e) hc nch ho (I.freeC x c e)
      exact ⟨_, q, hd⟩
    · exact ⟨o, keep c o (I.cne x c e) hc nch ho (I.freeC x c e), hd⟩
  refine ⟨I.ok, I.os, hg, ⟨fun b o e n hb hx => ?_, fun b o e n hb hx => ?_, fun b o e n hx => ?_, fun b o e hx => ?_, fun b xs e => tups b xs (I.base.tups b xs e), fun b o xs e => frzs b o xs (I.base.frzs b o xs e), fun b ps e => ?_⟩, ?_, fun x c e => ?_, ?_, fun x c e => ?_, fun p hp => ?_, hok, I.len⟩
  · exact keep b o (neL b o e) hb (neC b o e hx) (I.base.keep b o e n hb hx) (I.base.free b o e n hx)
  · obtain ⟨sl, e1⟩ := I.base.slot b o e n hb hx
    obtain ⟨sl', e2⟩ := slot b _ (neL b o e) hb (neC b o e hx) e1 (I.base.free b o e n hx)
    exact ⟨sl', e2⟩
  · obtain ⟨o', e1⟩ := I.base.there b o e hx
    exact free b o' (neC b o e hx) e1 (I.base.free b o e n hx)
  · obtain ⟨o', e1⟩ := I.base.there b o e hx
    exact there b o' (neC b o e hx) e1
  · obtain ⟨m1, e1⟩ := I.base.tbls b ps e
    obtain ⟨m2, e2⟩ := tbls b _ e1
    exact ⟨m1 ++ m2, by rw [e2, Array.append_assoc]⟩
  · obtain ⟨m, hn, hl⟩ := I.loc
    refine ⟨m, ns m hn, fun i x v e1 e2 e3 => ?_⟩
    obtain ⟨u, r, l⟩ := hl i x v e1 e2 e3
    refine ⟨u, r, ?_⟩
    rcases l with l | ⟨k, c, e, z⟩
    · exact .inl l
    · exact .inr ⟨k, c, e, cellK x c e _ z⟩
  · obtain ⟨v, z⟩ := I.cell x c e
    exact ⟨v, cellK x c e v z⟩
  · obtain ⟨m, ⟨o, _, _, ho, _⟩, _⟩ := I.loc
    exact free _ o (fun z => (hch _ z).2.1 rfl) ho I.free
  · obtain ⟨v, o, ho, hd⟩ := I.cell x c e
    exact free c o (fun z => (hch c z).2.2.1 x c e rfl) ho (I.freeC x c e)
  · obtain ⟨e, n, ne, nf, d⟩ := I.pin p hp
    have nch : p.1 ∉ ch := fun z => (hch p.1 z).2.2.2 p hp rfl
    exact ⟨keep p.1 p.2 ne nf nch e n, free p.1 p.2 nch e n, ne, nf, d⟩
/-- .. where the frame's own object is kept too -/
theorem Inv.un {t' : Nat} (I : Inv X pins σ H s) (u : Un X.fs [] H H' s.heap h') (hok : HOk X.prog X.w H' h') : Inv X pins σ H' { s with heap := h', toks := t' } := by
  obtain ⟨m, ⟨o, es, ep, ho, r⟩, _⟩ := id I.loc
  obtain ⟨sl, hL⟩ := u.any ho I.free (by simp)
  exact I.step (g' := s.gens) (d' := s.drawn) (ch := []) (fun _ z => nomatch z) (fun b o _ hb _ e n => u.keep b o e n hb (by simp)) (fun b o _ hb _ e n => u.slot b o e n hb (by simp)) (fun b o _ e n => u.free b o e n (by simp)) (fun b o _ e => u.there b o e (by simp)) u.tups u.frzs u.tbls (fun m' hm => by
    obtain ⟨o', es', ep', ho', r'⟩ := hm
    rw [ho] at ho'; cases ho'
    exact ⟨_, es', ep', hL, r'⟩) hok I.bare
/-- behind a call (or a comprehension's block): the slots of this frame may have changed too, the records at ch may have turned -/
theorem Inv.call {g' : Array GenState} {t' : Nat} {d' : Drawn} {ch : List Addr} (I : Inv X pins σ H s) (u : Un (frs X.stack) ch H H' s.heap h') (hok : HOk X.prog X.w H' h') (hg : AllBare g')
    (hch : ∀ b ∈ ch, (b ∈ X.ex ∨ X.s₀.heap.objs.size ≤ b) ∧ b ≠ X.env.locals ∧ (∀ x c, X.env.cells.lookup x = some c → c ≠ b) ∧ ∀ p ∈ X.pn ++ pins, p.1 ≠ b) :
    Inv X pins σ H' { s with heap := h', gens := g', drawn := d', toks := t' } := by
  obtain ⟨m, ⟨o, es, ep, ho, r⟩, _⟩ := id I.loc
  obtain ⟨sl, hL⟩ := u.any ho I.free fun z => (hch _ z).2.1 rfl
  exact I.step (ch := ch) hch (fun b o hL hb hc e n => u.keep b o e n (fun z => (List.mem_cons.mp (I.stkSub b z)).elim hL hb) hc) (fun b o _ _ hc e n => u.any e n hc) (fun b o hc e n => u.free b o e n hc) (fun b o hc e => u.there b o e hc) u.tups u.frzs u.tbls (fun m' hm => by
    obtain ⟨o', es', ep', ho', r'⟩ := hm
    rw [ho] at ho'; cases ho'
    exact ⟨_, es', ep', hL, r'⟩) hok hg
/-- an untracked record of ours (an iterator) has turned -/
theorem Inv.turned {t' : Nat} {it : Addr} (I : Inv X pins σ H s) (k : ∀ b o, b ≠ it → s.heap.get? b = some o → h'.get? b = some o) (hn : H it = none) (hL : it ≠ X.env.locals)
    (h1 : it ∈ X.ex ∨ X.s₀.heap.objs.size ≤ it) (h2 : ∀ x c, X.env.cells.lookup x = some c → c ≠ it) (h3 : ∀ p ∈ X.pn ++ pins, p.1 ≠ it) : Inv X pins σ H { s with heap := h', toks := t' } := by
  have nit : ∀ b u, H b = some u → b ≠ it := fun b u e z => by rw [z, hn] at e; cases e
  refine I.step (g' := s.gens) (d' := s.drawn) (ch := [it]) (fun b hb => ?_) (fun b o _ _ hc e _ => k b o (fun z => hc (by simp [z])) e) (fun b o _ _ hc e _ => ⟨o.slots, k b o (fun z => hc (by simp [z])) e⟩) (fun _ _ _ _ n => n)
    (fun b o hc e => ⟨o, k b o (fun z => hc (by simp [z])) e⟩) (fun _ _ e => e) (fun _ _ _ e => e) (fun b ps e => ⟨#[], by rw [e]; simp⟩) (fun m hm => ?_) (fun b u e => ?_) I.bare
  · have e : b = it := by simpa using hb
    subst e
    exact ⟨h1, hL, h2, h3⟩
  · obtain ⟨o, es, ep, ho, r⟩ := hm
    exact ⟨o, es, ep, k _ o (Ne.symm hL) ho, r⟩
  · refine (I.hok b u e).stay (fun c v hc q => k c v ?_ q) (fun _ q => q) fun _ _ q => q
    rcases hc with z | z
    · rw [z]; exact nit b u e
    · exact nit c _ z
theorem Inv.tok (I : Inv X pins σ H s) (t : Nat) : Inv X pins σ H { s with toks := t } := I.un (h' := s.heap) (t' := t) Un.refl I.hok
/-- all objects kept -/
theorem Inv.kept {t' : Nat} (I : Inv X pins σ H s) (k : ∀ b u, s.heap.get? b = some u → h'.get? b = some u) : Inv X pins σ H { s with heap := h', toks := t' } := I.un (Un.kept k) (I.hok.kept k)
/-- a new object laid and tracked -/
theorem Inv.laid {a : Addr} {o : HO} {t' : Nat} (I : Inv X pins σ H s) (k : ∀ b u, s.heap.get? b = some u → h'.get? b = some u) (hp : s.heap.objs.size ≤ a) (new : ObjOk X.prog X.w (upd H a o) h' a o) :
    Inv X pins σ (upd H a o) { s with heap := h', toks := t' } := I.un (Un.laid k hp (I.hok.fresh hp)) (I.hok.laid k hp new)
/-- an object written -/
theorem Inv.write {x e : Addr} {o : HO} {t' : Nat} (I : Inv X pins σ H s) (mu : Mut (H x)) (he : e = x ∨ H e = some (.own x)) (k : ∀ b u, b ≠ e → s.heap.get? b = some u → h'.get? b = some u) (heo : ∃ u, h'.get? e = some u)
    (new : ObjOk X.prog X.w (upd H x o) h' x o) : Inv X pins σ (upd H x o) { s with heap := h', toks := t' } := I.un (Un.write mu he k heo) (I.hok.write mu he k heo new)
/-- forgetting slots, pins -/
theorem Inv.weak {σ' : List (Option V)} (I : Inv X pins σ H s) (hl : σ'.length = σ.length) (w : ∀ (i : Nat) v, σ'[i]? = some (some v) → σ[i]? = some (some v)) : Inv X pins σ' H s :=
  ⟨I.ok, I.os, I.bare, I.base, let ⟨m, hn, hl'⟩ := I.loc; ⟨m, hn, fun i x v e1 e2 e3 => hl' i x v e1 (w i v e2) e3⟩, I.cell, I.free, I.freeC, I.pin, I.hok, hl.trans I.len⟩
theorem Inv.pins_of {pins' : List (Addr × Obj)} (I : Inv X pins σ H s) (h : ∀ p ∈ pins', s.heap.get? p.1 = some p.2 ∧ H p.1 = none ∧ p.1 ≠ X.env.locals ∧ p.1 ∉ X.fs ∧ ∀ v, p.2.data ≠ .cell v) : Inv X pins' σ H s :=
  ⟨I.ok, I.os, I.bare, I.base, I.loc, I.cell, I.free, I.freeC, fun p hp => (List.mem_append.mp hp).elim (fun z => I.pin p (List.mem_append_left _ z)) (h p), I.hok, I.len⟩
theorem nodup_ix {N : List Str} (hN : N.Nodup) {i j : Nat} {x : Str} (a : N[i]? = some x) (b : N[j]? = some x) : i = j := by
  obtain ⟨h1, e1⟩ := List.getElem?_eq_some_iff.mp a
  obtain ⟨h2, e2⟩ := List.getElem?_eq_some_iff.mp b
  exact (List.getElem_inj hN).mp (e1.trans e2.symm)
/-- a name is stored; what changed -/
theorem store_ok2 {M : Model} {A : Around} {E : Value → Shared → Prop} {i : Nat} {x : Str} {v : V} {u : Value} {Q : Unit → Shared → Prop} (I : Inv X pins σ H s) (hN : X.N.Nodup) (hi : X.N[i]? = some x) (hx : Loc X.env.scope x) (r : RelV v u)
    (h : ∀ s', Inv X pins (σ.set i (some v)) H s' → (∃ a, Heap.SameBut a s.heap s'.heap ∧ (a = X.env.locals ∨ X.env.cells.lookup x = some a)) → Q () s') (hf : X.fn x = true ∨ X.env.scope.names.lookup x = some .local := by first | exact .inl rfl | exact .inr rfl | assumption) : wpAny M A (storeName X.env x u) Q E s := by
  obtain ⟨m, hn, hl⟩ := id I.loc
  have hcls : (X.env.scope.kind == .class || (X.env.scope.kind == .module && X.env.locals != X.env.globals)) = false := by rw [I.ok.kind]; rfl
  have hiσ : i < σ.length := by rw [I.len]; exact (List.getElem?_eq_some_iff.mp hi).1
  have cne := I.cne
  have tracked : ∀ {a : Addr} {h' : Heap}, (∃ o, s.heap.get? a = some o ∧ H a = none) → Heap.SameBut a s.heap h' → HOk X.prog X.w H h' := fun {a h'} ha hs b ob e => by
    obtain ⟨_, _, hfree⟩ := ha
    refine (I.hok b ob e).stay (fun c w' hc q => (hs.2 c ?_).trans q) (fun _ q => q) fun _ _ q => q
    rintro rfl
    rcases hc with rfl | hc
    · rw [hfree] at e; cases e
    · rw [hfree] at hc; cases hc
  rcases hx with hk | hk
  · refine wpAny_storeName_local hk hn (fun h' hn' hs => ?_) hcls
    obtain ⟨oL, _, _, hoL, _⟩ := id hn
    refine h _ ⟨I.ok, I.os, I.bare, ⟨fun b o e n hb hx => ?_, fun b o e n hb hx => ?_, I.base.free, fun b o e hx => ?_, I.base.tups, I.base.frzs, I.base.tbls⟩, ⟨_, hn', fun j y v' e1 e2 e3 => ?_⟩, fun y c e => ?_, I.free, I.freeC, fun p hp => ?_, tracked ⟨oL, hoL, I.free⟩ hs, by simpa using I.len⟩ ⟨_, hs, .inl rfl⟩
    · exact (hs.2 b (Nat.ne_of_lt (Nat.lt_of_lt_of_le (Heap.lt_size e) I.ok.above))).trans (I.base.keep b o e n hb hx)
    · obtain ⟨sl, e1⟩ := I.base.slot b o e n hb hx
      exact ⟨sl, (hs.2 b (Nat.ne_of_lt (Nat.lt_of_lt_of_le (Heap.lt_size e) I.ok.above))).trans e1⟩
    · obtain ⟨o', e1⟩ := I.base.there b o e hx
      exact ⟨o', (hs.2 b (Nat.ne_of_lt (Nat.lt_of_lt_of_le (Heap.lt_size e) I.ok.above))).trans e1⟩
    · by_cases hj : j = i
      · subst hj
        rw [hi] at e1; cases e1
        rw [List.getElem?_set_self hiσ] at e2
        cases e2
        exact ⟨u, r, .inl ⟨hk, by simp⟩⟩
      · rw [List.getElem?_set_ne (Ne.symm hj)] at e2
        obtain ⟨u', r', q⟩ := hl j y v' e1 e2 e3
        refine ⟨u', r', ?_⟩
        rcases q with ⟨k, e⟩ | ⟨k, c, e, z⟩
        · refine .inl ⟨k, ?_⟩
          have : y ≠ x := fun e => hj (nodup_ix hN e1 (e ▸ hi))
          simp [this, e]
        · exact .inr ⟨k, c, e, z.sameBut hs (cne y c e)⟩
    · obtain ⟨w', z⟩ := I.cell y c e
      exact ⟨w', z.sameBut hs (cne y c e)⟩
    · obtain ⟨e, n, ne, nf, d⟩ := I.pin p hp
      exact ⟨(hs.2 p.1 ne).trans e, n, ne, nf, d⟩
  · have hfn : X.fn x = true := by
      rcases hf with z | z
      · exact z
      · rw [z] at hk; cases hk
    obtain ⟨c, hc⟩ := I.ok.has x (.inl hk)
    obtain ⟨w', z⟩ := I.cell x c hc
    refine wpAny_storeName_cell I.ok.kind hk hc z (fun h' hc' hs => ?_)
    obtain ⟨oc, hoc, hocd⟩ := id z
    refine h { s with heap := h' } ⟨I.ok, I.os, I.bare, ⟨fun b o e n hb hx => ?_, fun b o e n hb hx => ?_, I.base.free, fun b o e hx => ?_, I.base.tups, I.base.frzs, I.base.tbls⟩, ⟨m, hn.sameBut hs (Ne.symm (cne x c hc)), fun j y v' e1 e2 e3 => ?_⟩, fun y c' e => ?_, I.free, I.freeC, fun p hp => ?_, tracked ⟨oc, hoc, I.freeC x c hc⟩ hs, by simpa using I.len⟩ ⟨c, hs, .inr hc⟩
    · exact (hs.2 b (Nat.ne_of_lt (Nat.lt_of_lt_of_le (Heap.lt_size e) (I.ok.cab x c hfn hc)))).trans (I.base.keep b o e n hb hx)
    · obtain ⟨sl, e1⟩ := I.base.slot b o e n hb hx
      exact ⟨sl, (hs.2 b (Nat.ne_of_lt (Nat.lt_of_lt_of_le (Heap.lt_size e) (I.ok.cab x c hfn hc)))).trans e1⟩
    · obtain ⟨o', e1⟩ := I.base.there b o e hx
      exact ⟨o', (hs.2 b (Nat.ne_of_lt (Nat.lt_of_lt_of_le (Heap.lt_size e) (I.ok.cab x c hfn hc)))).trans e1⟩
    · by_cases hj : j = i
      · subst hj
        rw [hi] at e1; cases e1
        rw [List.getElem?_set_self hiσ] at e2
        cases e2
        exact ⟨u, r, .inr ⟨.inl hk, c, hc, hc'⟩⟩
      · rw [List.getElem?_set_ne (Ne.symm hj)] at e2
        obtain ⟨u', r', q⟩ := hl j y v' e1 e2 e3
        refine ⟨u', r', ?_⟩
        rcases q with q | ⟨k, c', e, z'⟩
        · exact .inl q
        · refine .inr ⟨k, c', e, z'.sameBut hs ?_⟩
          rintro rfl
          exact hj (nodup_ix hN e1 (I.ok.inj _ _ _ e hc ▸ hi))
    · by_cases hcc : c' = c
      · subst hcc; exact ⟨_, hc'⟩
      · obtain ⟨w2, z2⟩ := I.cell y c' e
        exact ⟨w2, z2.sameBut hs hcc⟩
    · obtain ⟨e, n, ne, nf, d⟩ := I.pin p hp
      refine ⟨(hs.2 p.1 ?_).trans e, n, ne, nf, d⟩
      intro q
      rw [q, hoc] at e
      have q' : oc = p.2 := Option.some.inj e
      exact d w' (by rw [← q']; exact hocd)
theorem store_ok {M : Model} {A : Around} {E : Value → Shared → Prop} {i : Nat} {x : Str} {v : V} {u : Value} {Q : Unit → Shared → Prop} (I : Inv X pins σ H s) (hN : X.N.Nodup) (hi : X.N[i]? = some x) (hx : Loc X.env.scope x) (r : RelV v u)
    (h : ∀ s', Inv X pins (σ.set i (some v)) H s' → Q () s') (hf : X.fn x = true ∨ X.env.scope.names.lookup x = some .local := by first | exact .inl rfl | exact .inr rfl | assumption) : wpAny M A (storeName X.env x u) Q E s :=
  store_ok2 I hN hi hx r (fun s' I' _ => h s' I') hf
/-- behind a call or a block, the state as it is -/
theorem Inv.call' {s' : Shared} {ch : List Addr} (I : Inv X pins σ H s) (ho : s'.os = s.os) (u : Un (frs X.stack) ch H H' s.heap s'.heap) (hok : HOk X.prog X.w H' s'.heap) (hg : AllBare s'.gens)
    (hch : ∀ b ∈ ch, (b ∈ X.ex ∨ X.s₀.heap.objs.size ≤ b) ∧ b ≠ X.env.locals ∧ (∀ x c, X.env.cells.lookup x = some c → c ≠ b) ∧ ∀ p ∈ X.pn ++ pins, p.1 ≠ b) : Inv X pins σ H' s' := by
  obtain ⟨h', g', d', t', o'⟩ := s'
  have e : o' = s.os := ho
  subst e
  exact I.call (g' := g') (t' := t') (d' := d') u hok hg hch
end
/-- an exception: its class, its own dict's address (where it has one), the abstract heap behind it -/
abbrev XK := Value → Option Addr → Hp → Prop
abbrev St := List (Option V)
abbrev VK := V → Hp → Prop
/-- an expression's reading; a test's; an argument list's -/
abbrev TE := St → Hp → VK → Prop
abbrev TT := St → Hp → (Bool → Hp → Prop) → Prop
abbrev TA := St → Hp → (List V → Hp → Prop) → Prop
/-- what is wanted behind a statement -/
structure Ends where
  nx : St → Hp → Prop
  rt : VK
  bk : St → Hp → Prop := fun _ _ => False
  ct : St → Hp → Prop := fun _ _ => False
abbrev TS := Ends → St → Hp → Prop
def EP (X : Cx) (pins : List (Addr × Obj)) (σ : St) (Q : VK) (u : Value) (s' : Shared) : Prop := ∃ v H', Inv X pins σ H' s' ∧ RelV v u ∧ Q v H'
def TP (X : Cx) (pins : List (Addr × Obj)) (σ : St) (Q : Bool → Hp → Prop) (b : Bool) (s' : Shared) : Prop := ∃ H', Inv X pins σ H' s' ∧ Q b H'
def AP (X : Cx) (pins : List (Addr × Obj)) (σ : St) (Q : List V → Hp → Prop) (us : List Value) (s' : Shared) : Prop := ∃ vs H', Inv X pins σ H' s' ∧ Vals vs us ∧ Q vs H'
def SP (X : Cx) (pins : List (Addr × Obj)) (D : Ends) (f : Flow) (s' : Shared) : Prop :=
  match f with
  | .next => ∃ σ' H', Inv X pins σ' H' s' ∧ D.nx σ' H'
  | .brk => ∃ σ' H', Inv X pins σ' H' s' ∧ D.bk σ' H'
  | .cont => ∃ σ' H', Inv X pins σ' H' s' ∧ D.ct σ' H'
  | .ret u => ∃ v σ' H', Inv X pins σ' H' s' ∧ RelV v u ∧ D.rt v H'
def PE (X : Cx) (e : Expr) (t : TE) : Prop :=
  ∀ (pins : List (Addr × Obj)) (s : Shared) (σ : St) (H : Hp) (Q : VK), Inv X pins σ H s → t σ H Q → wpAny (model X.prog X.w) X.A (eval e X.env) (EP X pins σ Q) X.xe s
def PT (X : Cx) (e : Expr) (t : TT) : Prop :=
  ∀ (pins : List (Addr × Obj)) (s : Shared) (σ : St) (H : Hp) (Q : Bool → Hp → Prop), Inv X pins σ H s → t σ H Q → wpAny (model X.prog X.w) X.A (isTrue e X.env (eval e X.env)) (TP X pins σ Q) X.xe s
/-- a test whatever its 'whole' is (and, or) -/
def PW (X : Cx) (e : Expr) (t : TT) : Prop :=
  ∀ (whole : Sem Value) (pins : List (Addr × Obj)) (s : Shared) (σ : St) (H : Hp) (Q : Bool → Hp → Prop), Inv X pins σ H s → t σ H Q → wpAny (model X.prog X.w) X.A (isTrue e X.env whole) (TP X pins σ Q) X.xe s
theorem PW.pt {X : Cx} {e : Expr} {t : TT} (h : PW X e t) : PT X e t := h _
/-- an argument list (no star), from the left -/
def PA (X : Cx) (es : List Expr) (t : TA) : Prop :=
  ∀ (pos : Pos) (pins : List (Addr × Obj)) (s : Shared) (σ : St) (H : Hp) (Q : List V → Hp → Prop), Inv X pins σ H s → t σ H Q → wpAny (model X.prog X.w) X.A (spliced (backTo pos (starEach es X.env))) (AP X pins σ Q) X.xe s
def PS (X : Cx) (st : Stmt) (t : TS) : Prop :=
  ∀ (pins : List (Addr × Obj)) (s : Shared) (σ : St) (H : Hp) (D : Ends), Inv X pins σ H s → t D σ H → wpAny (model X.prog X.w) X.A (exec st X.env) (SP X pins D) X.xe s
def PSs (X : Cx) (st : List Stmt) (t : TS) : Prop :=
  ∀ (pins : List (Addr × Obj)) (s : Shared) (σ : St) (H : Hp) (D : Ends), Inv X pins σ H s → t D σ H → wpAny (model X.prog X.w) X.A (execs st X.env) (SP X pins D) X.xe s
/-- weaken the end -/
theorem thn {α : Type} {t : Sem α} {Q Q' : α → Shared → Prop} {M : Model} {A : Around} {E : Value → Shared → Prop} {s : Shared} (h : wpAny M A t Q E s) (hQ : ∀ a s, Q a s → Q' a s) : wpAny M A t Q' E s := wpAny_mono h hQ fun _ _ x => x
end L2
namespace L2
open PySem PySem.Spec PyProof.Rows
section
variable {X : Cx}
def tVar (i : Nat) : TE := fun σ H Q => ∃ v, σ[i]? = some (some v) ∧ Q v H
def tC (v : V) : TE := fun _ H Q => Q v H
theorem pe_var {i : Nat} {x : Str} {pos : Pos} (hN : X.N[i]? = some x) (hv : Vis X.env.scope x) (hd : (x == ("__debug__" : Str)) = false := by decide) (hcd : (x == ("__classdict__" : Str)) = false := by decide) : PE X (.Name x pos) (tVar i) := by
  intro pins s σ H Q I h
  obtain ⟨v, e, h⟩ := h
  obtain ⟨m, hn, hl⟩ := I.loc
  obtain ⟨u, r, l⟩ := hl i x v hN e hv
  have fin : EP X pins σ Q u s := ⟨v, H, I, r, h⟩
  rcases l with ⟨hk, hm⟩ | ⟨hk, c, hc, hcell⟩
  · exact wpAny_Name (wpAny_loadName_local I.ok.kind hk hn hm fin) hd
  · rcases hk with hk | hk
    · exact wpAny_Name (wpAny_loadName_cell I.ok.kind hk hc hcell fin) hd
    · exact wpAny_Name (wpAny_loadName_free I.ok.kind hk hc hcell fin hcd) hd
theorem pe_int {i j pos} : PE X (.Constant (.int i) j pos) (tC (.int i)) := fun _ _ _ H _ I h => wpAny_Constant_int ⟨.int i, H, I.tok _, ⟨_, rfl⟩, h⟩
theorem pe_bl {b j pos} : PE X (.Constant (.bool b) j pos) (tC (.bl b)) := fun _ _ _ H _ I h => Constant_bool ⟨.bl b, H, I, rfl, h⟩
theorem pe_str {x j pos} : PE X (.Constant (.str x) j pos) (tC (.str x)) := fun _ _ _ H _ I h => Calls.Constant_str ⟨.str x, H, I.tok _, ⟨_, rfl⟩, h⟩
/-- a global name of the def -/
def Gl (X : Cx) (x : Str) : Prop := X.env.kindOf x = some .globalImplicit
theorem ld_glob {E : Value → Shared → Prop} {pins : List (Addr × Obj)} {s : Shared} {σ : St} {H : Hp} {x : Str} {u : Value} {pos : Pos} {Q : Value → Shared → Prop} (I : Inv X pins σ H s) (hg : Gl X x) (hm : X.mg x = some u) (h : Q u s)
    (hd : (x == ("__debug__" : Str)) = false := by decide) : wpAny (model X.prog X.w) X.A (eval (.Name x pos) X.env) Q E s :=
  Calls.Name_function_global I.ok.kind hg (Calls.loadGlobal_global (by rw [I.ok.glob]; exact I.mod.glob.keeps I.bk) hm h) hd
theorem ld_blt {E : Value → Shared → Prop} {pins : List (Addr × Obj)} {s : Shared} {σ : St} {H : Hp} {x : Str} {u : Value} {pos : Pos} {Q : Value → Shared → Prop} (I : Inv X pins σ H s) (hg : Gl X x) (hm : X.mg x = none) (hv : bootBuiltins x = some u) (h : Q u s)
    (hn : x ≠ "__name__" := by decide) (hd : (x == ("__debug__" : Str)) = false := by decide) : wpAny (model X.prog X.w) X.A (eval (.Name x pos) X.env) Q E s := by
  obtain ⟨mb, h1, h2⟩ := I.mod.blt
  exact Calls.Name_function_global I.ok.kind hg (Calls.loadGlobal_builtin (by rw [I.ok.glob]; exact I.mod.glob.keeps I.bk) hm (by rw [I.ok.blt]; exact h1.keeps I.bk) ((h2 x hn).trans hv) h) hd
/-- a module's constant, a class, a function, as a value -/
theorem pe_glob {x : Str} {v : V} {u : Value} {pos : Pos} (hg : Gl X x) (hm : X.mg x = some u) (r : RelV v u) (hd : (x == ("__debug__" : Str)) = false := by decide) : PE X (.Name x pos) (tC v) :=
  fun _ _ _ H _ I h => ld_glob I hg hm ⟨v, H, I, r, h⟩ hd
theorem pe_bltn {x : Str} {v : V} {u : Value} {pos : Pos} (hg : Gl X x) (hm : X.mg x = none) (hv : bootBuiltins x = some u) (r : RelV v u) (hn : x ≠ "__name__" := by decide) (hd : (x == ("__debug__" : Str)) = false := by decide) : PE X (.Name x pos) (tC v) :=
  fun _ _ _ H _ I h => ld_blt I hg hm hv ⟨v, H, I, r, h⟩ hn hd
variable {a b : Expr} {ta tb : TE} {pos : Pos}
/-- a comparison as a value, as a test -/
def tB (t : TE) : TT := fun σ H Q => t σ H fun x H1 => ∃ c, x = .bl c ∧ Q c H1
/-- an expression whose value is a bool, as a test -/
theorem pt_val {e : Expr} {t : TE} (h : PE X e t) (he : ∀ whole, isTrue e X.env whole = (do let v ← whole; standAt e.pos; holding [v] (truthy v)) := by intro _; rfl) : PT X e (tB t) := by
  intro pins s σ H Q I hw
  refine isTrue_plain (thn (h pins s σ H _ I hw) fun v s1 ⟨x, H1, I1, r1, q1⟩ => ?_) (he _)
  obtain ⟨d, rfl, q⟩ := q1
  cases r1
  exact wpAny_truthy_bool ⟨H1, I1, q⟩
variable {tA tB' : TT} {rest : List Expr}
def tAnd (t u : TT) : TT := fun σ H Q => t σ H fun c H1 => if c = true then u σ H1 Q else Q false H1
def tOr (t u : TT) : TT := fun σ H Q => t σ H fun c H1 => if c = true then Q true H1 else u σ H1 Q
def tNot (t : TT) : TT := fun σ H Q => t σ H fun c H1 => Q (!c) H1
theorem pw_and1 (ha : PT X a tA) : PW X (.BoolOp .And [a] pos) tA := by
  intro wh pins s σ H Q I h
  refine isTrue_and (thn (ha pins s σ H Q I h) fun c s1 e => ?_)
  cases c with
  | true => exact isTrue_and_nil e
  | false => exact e
theorem pw_or1 (ha : PT X a tA) : PW X (.BoolOp .Or [a] pos) tA := by
  intro wh pins s σ H Q I h
  refine isTrue_or (thn (ha pins s σ H Q I h) fun c s1 e => ?_)
  cases c with
  | false => exact isTrue_or_nil e
  | true => exact e
theorem pw_and (ha : PT X a tA) (hb : PW X (.BoolOp .And (b :: rest) pos) tB') : PW X (.BoolOp .And (a :: b :: rest) pos) (tAnd tA tB') := by
  intro wh pins s σ H Q I h
  refine isTrue_and (thn (ha pins s σ H _ I h) fun c s1 ⟨H1, I1, q1⟩ => ?_)
  cases c with
  | true => exact hb wh pins s1 σ H1 Q I1 q1
  | false => exact ⟨H1, I1, q1⟩
theorem pw_or (ha : PT X a tA) (hb : PW X (.BoolOp .Or (b :: rest) pos) tB') : PW X (.BoolOp .Or (a :: b :: rest) pos) (tOr tA tB') := by
  intro wh pins s σ H Q I h
  refine isTrue_or (thn (ha pins s σ H _ I h) fun c s1 ⟨H1, I1, q1⟩ => ?_)
  cases c with
  | true => exact ⟨H1, I1, q1⟩
  | false => exact hb wh pins s1 σ H1 Q I1 q1
theorem pt_not (ha : PT X a tA) : PT X (.UnaryOp .Not a pos) (tNot tA) := by
  intro pins s σ H Q I h
  exact isTrue_not (ha pins s σ H (fun c H1 => Q (!c) H1) I h)
/-- .. as values (bools) -/
def tAndV (ta tb : TE) : TE := fun σ H Q => ta σ H fun x H1 => ∃ c, x = .bl c ∧ if c = true then tb σ H1 Q else Q (.bl false) H1
theorem pe_one {op} {t : TE} (h : PE X a t) : PE X (.BoolOp op [a] pos) t := fun pins s σ H Q I hw => BoolOp_one (h pins s σ H Q I hw)
theorem pe_and (ha : PE X a ta) (hb : PE X (.BoolOp .And (b :: rest) pos) tb) : PE X (.BoolOp .And (a :: b :: rest) pos) (tAndV ta tb) := by
  intro pins s σ H Q I h
  refine BoolOp_and (thn (ha pins s σ H _ I h) fun v s1 ⟨x, H1, I1, r1, q1⟩ => ?_)
  obtain ⟨c, rfl, q1⟩ := q1
  cases r1
  refine wpAny_truthy_bool ?_
  cases c with
  | true => exact hb pins s1 σ H1 Q I1 q1
  | false => exact ⟨.bl false, H1, I1, rfl, q1⟩
end
end L2
namespace L2
open PySem PySem.Spec PyProof.Rows
def SqL (K : PySem.W.Frag) (H : Hp) (a : Addr) (xs : List V) : Prop :=
  Rd H a (.lst xs) ∨
    ∃ (o : Obj) (its : Array Value) (n : Nat), K.lookup a = some o ∧ o.cls = .type "list" ∧ o.dict = none ∧ o.data = .seq its n ∧ its.size ≤ sizeLine ∧ Vals xs its.toList
def SqT (K : PySem.W.Frag) (H : Hp) (a : Addr) (xs : List V) : Prop :=
  Rd H a (.tup xs) ∨
    ∃ (o : Obj) (its : Array Value) (n : Nat), K.lookup a = some o ∧ o.cls = .type "tuple" ∧ o.data = .seq its n ∧ its.size ≤ sizeLine ∧ Vals xs its.toList
def absV : Value → Option V
  | .none => some .non
  | .bool b => some (.bl b)
  | .int i _ => some (.int i)
  | .str x _ => some (.str x)
  | .bytes b _ => some (.byt b)
  | .float b _ => some (.flt b)
  | .ref a => some (.ref a)
  | .type n => some (.ty n)
  | _ => none
theorem RelV.abs {x : V} {u : Value} (r : RelV x u) : absV u = some x := by
  cases x with
  | non => cases r; rfl
  | bl _ => cases r; rfl
  | int _ => obtain ⟨t, rfl⟩ := r; rfl
  | str _ => obtain ⟨t, rfl⟩ := r; rfl
  | byt _ => obtain ⟨t, rfl⟩ := r; rfl
  | flt _ => obtain ⟨t, rfl⟩ := r; rfl
  | ref _ => cases r; rfl
  | ty _ => cases r; rfl
theorem RelV.inj {x y : V} {u : Value} (r : RelV x u) (q : RelV y u) : x = y := Option.some.inj (r.abs.symm.trans q.abs)
theorem Vals.inj : ∀ {xs ys : List V} {us : List Value}, Vals xs us → Vals ys us → xs = ys
  | _, _, _, .nil, .nil => rfl
  | _, _, _, .cons r t, .cons r' t' => by rw [r.inj r', Vals.inj t t']
section
variable {X : Cx} {pins : List (Addr × Obj)} {σ : St} {H : Hp} {s : Shared} {a : Addr} {xs ys : List V}
theorem SqL.of {K : PySem.W.Frag} (h : H a = some (.lst xs)) : SqL K H a xs := .inl (.inl h)
theorem SqT.of {K : PySem.W.Frag} (h : H a = some (.tup xs)) : SqT K H a xs := .inl (.inl h)
theorem Inv.list (I : Inv X pins σ H s) (h : SqL X.K H a xs) : ∃ its : List Value, Vals xs its ∧ PlainL s.heap a its.toArray ∧ xs.length ≤ sizeLine := by
  rcases h with h | ⟨o, its, n, hk, hc, hd, hs, hz, r⟩
  · obtain ⟨z, its, n, r, e⟩ := h.ok I.hok
    exact ⟨its, r, ⟨_, n, e, rfl, rfl, rfl⟩, z⟩
  · refine ⟨its.toList, r, ⟨o, n, I.kIn a o hk, hc, hd, by simpa using hs⟩, ?_⟩
    have e := r.length
    simp only [Array.length_toList] at e
    omega
theorem Inv.tuple (I : Inv X pins σ H s) (h : SqT X.K H a xs) : ∃ its : List Value, Vals xs its ∧ IsTup s.heap a its.toArray ∧ xs.length ≤ sizeLine := by
  rcases h with h | ⟨o, its, n, hk, hc, hs, hz, r⟩
  · obtain ⟨z, its, r, p⟩ := h.ok I.hok
    exact ⟨its, r, p, z⟩
  · refine ⟨its.toList, r, ⟨o, I.kIn a o hk, hc, n, by simpa using hs⟩, ?_⟩
    have e := r.length
    simp only [Array.length_toList] at e
    omega
theorem Inv.list_inj (I : Inv X pins σ H s) (h : SqL X.K H a xs) (h' : SqL X.K H a ys) : xs = ys := by
  obtain ⟨its, r, ⟨o, n, e, _, _, d⟩, _⟩ := I.list h
  obtain ⟨its', r', ⟨o', n', e', _, _, d'⟩, _⟩ := I.list h'
  rw [e] at e'; cases e'
  rw [d] at d'
  injection d' with d1 _
  have : its = its' := by simpa using congrArg Array.toList d1
  subst this
  exact r.inj r'
end
abbrev Cx.wish (X : Cx) (E : Value → Shared → Prop) : Cx := { X with xe := E }
/-- no exception leaves -/
abbrev Cx.nox (X : Cx) : Cx := X.wish fun _ _ => False
theorem Cx.Ok.wish {X : Cx} (ok : X.Ok) (E : Value → Shared → Prop) : (X.wish E).Ok :=
  ⟨ok.mod, ok.kind, ok.glob, ok.blt, ok.above, ok.inj, ok.has, ok.cab, ok.hd, ok.frames, ok.stk, ok.exf, ok.bs, ok.bsz, ok.noex, ok.exfs, ok.funs, ok.frf⟩
theorem Cx.Ok.unwish {X : Cx} {E : Value → Shared → Prop} (ok : (X.wish E).Ok) : X.Ok :=
  ⟨ok.mod, ok.kind, ok.glob, ok.blt, ok.above, ok.inj, ok.has, ok.cab, ok.hd, ok.frames, ok.stk, ok.exf, ok.bs, ok.bsz, ok.noex, ok.exfs, ok.funs, ok.frf⟩
section
variable {X : Cx} {pins : List (Addr × Obj)} {σ : St} {H : Hp} {s : Shared} {E : Value → Shared → Prop}
theorem Inv.wish (I : Inv X pins σ H s) (E : Value → Shared → Prop) : Inv (X.wish E) pins σ H s := ⟨I.ok.wish E, I.os, I.bare, I.base, I.loc, I.cell, I.free, I.freeC, I.pin, I.hok, I.len⟩
theorem Inv.unwish (I : Inv (X.wish E) pins σ H s) : Inv X pins σ H s := ⟨I.ok.unwish, I.os, I.bare, I.base, I.loc, I.cell, I.free, I.freeC, I.pin, I.hok, I.len⟩
theorem SP.unwish {D : Ends} {f : Flow} {s' : Shared} (h : SP (X.wish E) pins D f s') : SP X pins D f s' := by
  cases f with
  | next => obtain ⟨σ', H', I, q⟩ := h; exact ⟨σ', H', I.unwish, q⟩
  | brk => obtain ⟨σ', H', I, q⟩ := h; exact ⟨σ', H', I.unwish, q⟩
  | cont => obtain ⟨σ', H', I, q⟩ := h; exact ⟨σ', H', I.unwish, q⟩
  | ret u => obtain ⟨v, σ', H', I, r, q⟩ := h; exact ⟨v, σ', H', I.unwish, r, q⟩
theorem PSs.nox {st : List Stmt} {t : TS} (h : PSs X.nox st t) : PSs X st t := fun pins s σ H D I hw =>
  wpAny_mono (h pins s σ H D (I.wish _) hw) (fun _ _ q => q.unwish) fun _ _ z => False.elim z
end
section
variable {X : Cx} {st : Stmt} {rest : List Stmt} {t u : TS} {e : Expr} {te : TE} {pos : Pos}
def tNext : TS := fun D σ H => D.nx σ H
def tSeq (t u : TS) : TS := fun D σ H => t { D with nx := u D } σ H
theorem pss_nil : PSs X [] tNext := fun _ _ σ H _ I h => wpAny_execs_nil ⟨σ, H, I, h⟩
theorem pss_cons (h1 : PS X st t) (h2 : PSs X rest u) : PSs X (st :: rest) (tSeq t u) := by
  intro pins s σ H D I h
  refine wpAny_execs_cons (thn (h1 pins s σ H { D with nx := u D } I h) fun f s1 q => ?_)
  cases f with
  | next =>
    obtain ⟨σ', H', I', q⟩ := q
    exact h2 pins s1 σ' H' D I' q
  | ret v => exact q
  | brk => exact q
  | cont => exact q
theorem pss_one (h1 : PS X st t) : PSs X [st] t := by
  intro pins s σ H D I h
  refine wpAny_execs_cons (thn (h1 pins s σ H D I h) fun f s1 q => ?_)
  cases f with
  | next => exact wpAny_execs_nil q
  | ret v => exact q
  | brk => exact q
  | cont => exact q
/-- in a def's body nothing is shown -/
theorem Inv.quiet {pins : List (Addr × Obj)} {σ : St} {H : Hp} {s : Shared} (I : Inv X pins σ H s) : interactive X.env = false := by simp [interactive, I.ok.kind]
/-- an expression whose value is dropped -/
def tDrop (te : TE) : TS := fun D σ H => te σ H fun _ H1 => D.nx σ H1
theorem ps_expr (he : PE X e te) (hs : swapsWith e none pos.line X.env = pure false := by rfl) : PS X (.Expr e pos) (tDrop te) := by
  intro pins s σ H D I h
  exact wpAny_Expr_any (thn (he pins s σ H _ I h) fun v s1 ⟨x, H1, I1, r1, q1⟩ => ⟨σ, H1, I1, q1⟩) I.quiet hs
def tRet (te : TE) : TS := fun D σ H => te σ H D.rt
theorem ps_ret (he : PE X e te) : PS X (.Return (some e) pos) (tRet te) := by
  intro pins s σ H D I h
  exact wpAny_Return_some (thn (he pins s σ H _ I h) fun v s1 ⟨x, H1, I1, r1, q1⟩ => ⟨x, σ, H1, I1, r1, q1⟩)
def tIfS (c : TT) (t u : TS) : TS := fun D σ H => c σ H fun b H1 => if b = true then t D σ H1 else u D σ H1
theorem ps_if {c : Expr} {a b : List Stmt} {tc : TT} (hc : PT X c tc) (ha : PSs X a t) (hb : PSs X b u) : PS X (.If c a b pos) (tIfS tc t u) := by
  intro pins s σ H D I h
  refine wpAny_If (thn (hc pins s σ H _ I h) fun d s1 ⟨H1, I1, q1⟩ => ?_)
  cases d with
  | true => exact ha pins s1 σ H1 D I1 q1
  | false => exact hb pins s1 σ H1 D I1 q1
/-- code that the proof never comes to -/
def tNever : TS := fun _ _ _ => False
theorem ps_never : PS X st tNever := fun _ _ _ _ _ _ h => h.elim
end
abbrev TG := V → St → Hp → (St → Hp → Prop) → Prop
abbrev TGs := List V → St → Hp → (St → Hp → Prop) → Prop
def PG (X : Cx) (target : Expr) (t : TG) : Prop :=
  ∀ (pins : List (Addr × Obj)) (s : Shared) (σ : St) (H : Hp) (v : V) (u : Value) (Q : St → Hp → Prop), Inv X pins σ H s → RelV v u → t v σ H Q →
    wpAny (model X.prog X.w) X.A (assign target X.env u) (fun _ s' => ∃ σ' H', Inv X pins σ' H' s' ∧ Q σ' H') X.xe s
/-- several targets, one after another -/
def PGs (X : Cx) (ts : List Expr) (t : TGs) : Prop :=
  ∀ (pins : List (Addr × Obj)) (s : Shared) (σ : St) (H : Hp) (vs : List V) (us : List Value) (Q : St → Hp → Prop), Inv X pins σ H s → Vals vs us → t vs σ H Q →
    wpAny (model X.prog X.w) X.A (assignInOrder ((assignEach ts X.env).map (·.2)) us) (fun _ s' => ∃ σ' H', Inv X pins σ' H' s' ∧ Q σ' H') X.xe s
section
variable {X : Cx} {pos : Pos}
def gName (i : Nat) : TG := fun v σ H Q => Q (σ.set i (some v)) H
theorem pg_name {i : Nat} {x : Str} (hN : X.N.Nodup) (hi : X.N[i]? = some x) (hx : Loc X.env.scope x) (hf : X.fn x = true ∨ X.env.scope.names.lookup x = some .local := by first | exact .inl rfl | exact .inr rfl | assumption) : PG X (.Name x pos) (gName i) := by
  intro pins s σ H v u Q I r h
  exact wpAny_assign_Name (store_ok I hN hi hx r (fun s' I' => ⟨_, H, I', h⟩) hf)
def gNil : TGs := fun vs σ H Q => vs = [] ∧ Q σ H
def gCons (t : TG) (u : TGs) : TGs := fun vs σ H Q => ∃ v r, vs = v :: r ∧ t v σ H fun σ' H' => u r σ' H' Q
theorem pgs_nil : PGs X [] gNil := by
  intro pins s σ H vs us Q I r h
  obtain ⟨e, h⟩ := h
  subst e
  cases r
  exact assignInOrder_nil ⟨σ, H, I, h⟩
theorem pgs_cons {e : Expr} {es : List Expr} {t : TG} {u : TGs} (h1 : PG X e t) (h2 : PGs X es u)
    (hs : (assignEach (e :: es) X.env).map (·.2) = assign e X.env :: (assignEach es X.env).map (·.2) := by rfl) : PGs X (e :: es) (gCons t u) := by
  intro pins s σ H vs us Q I r h
  obtain ⟨v, vr, e1, h⟩ := h
  subst e1
  cases r with
  | cons r rr =>
    rw [hs]
    refine assignInOrder_cons (thn (h1 pins s σ H _ _ _ I r h) fun _ s1 ⟨σ1, H1, I1, q1⟩ => ?_)
    exact h2 pins s1 σ1 H1 _ _ Q I1 rr q1
/-- (a, b, ..) = a tuple of that length -/
def gTup (K : PySem.W.Frag) (n : Nat) (t : TGs) : TG := fun v σ H Q => ∃ a xs, v = .ref a ∧ SqT K H a xs ∧ xs.length = n ∧ t xs σ H Q
theorem pg_tup {es : List Expr} {k : Nat} {t : TGs} {n : Nat} (hc : X.calm = true) (h : PGs X es t)
    (hn : (assignEach es X.env).length = n := by rfl) (hst : (assignEach es X.env).findIdx? (·.1) = none := by rfl) : PG X (.Tuple es k pos) (gTup X.K n t) := by
  intro pins s σ H v u Q I r hw
  obtain ⟨a, xs, e1, hq, hl, hw⟩ := hw
  subst e1
  cases r
  obtain ⟨its, rv, ht, hz⟩ := I.tuple hq
  refine assign_Tuple_tuple (I.ok.hd hc) ht (by simp [hn, ← hl, rv.length]) hst fun h' hx => ?_
  have I1 : Inv X pins σ H { s with heap := h' } := I.kept (t' := s.toks) fun b o e => hx b o (Nat.ne_of_lt (Heap.lt_size e)) e
  exact h pins _ σ H xs _ Q I1 (by simpa using rv) hw
/-- target = value -/
def tAsg (te : TE) (g : TG) : TS := fun D σ H => te σ H fun x H1 => g x σ H1 D.nx
/-- name = value -/
theorem ps_set {i : Nat} {x : Str} {e : Expr} {te : TE} {pos' : Pos} (hN : X.N.Nodup) (hi : X.N[i]? = some x) (hx : Loc X.env.scope x) (he : PE X e te) (hs : swapsWith e (some (.Name x pos')) pos.line X.env = pure false := by rfl) (hf : X.fn x = true ∨ X.env.scope.names.lookup x = some .local := by first | exact .inl rfl | exact .inr rfl | assumption) :
    PS X (.Assign [.Name x pos'] e pos) (tAsg te (gName i)) := by
  intro pins s σ H D I h
  refine wpAny_Assign_Name (thn (he pins s σ H _ I h) fun v s1 ⟨y, H1, I1, r1, q1⟩ => ?_) hs
  exact store_ok I1 hN hi hx r1 (fun s2 I2 => ⟨_, H1, I2, q1⟩) hf
end
section
variable {X : Cx} {pos : Pos}
end
/-- at turn i: it yields x (the heap may grow), or it stops -/
structure It where
  go : Nat → Hp → Prop
  yld : Nat → Hp → V → Hp → Prop
  stop : Nat → Hp → Prop
/-- the iterator's own objects may turn: they are not the frame's, not pinned, younger than the entry (or a comprehension's own) -/
def FpOk (X : Cx) (pins : List (Addr × Obj)) (H : Hp) (b : Addr) : Prop :=
  H b = none ∧ b ≠ X.env.locals ∧ b ∉ X.fs ∧ (b ∈ X.ex ∨ X.s₀.heap.objs.size ≤ b) ∧ (∀ x c, X.env.cells.lookup x = some c → c ≠ b) ∧ ∀ p ∈ X.pn ++ pins, p.1 ≠ b
theorem Inv.fpOk {X : Cx} {pins : List (Addr × Obj)} {σ : St} {H H' : Hp} {s : Shared} {b : Addr} (I : Inv X pins σ H s) (hb : s.heap.objs.size ≤ b) (hn : H' b = none) : FpOk X pins H' b := by
  refine ⟨hn, Nat.ne_of_gt (Nat.lt_of_lt_of_le I.lt hb), I.nofs hb, .inr (Nat.le_trans I.sz hb), fun x c e z => ?_, fun p hp z => ?_⟩
  · obtain ⟨v, q⟩ := I.cell x c e
    exact absurd (Nat.lt_of_lt_of_le q.lt (by rw [z]; exact hb)) (Nat.lt_irrefl _)
  · exact absurd (Nat.lt_of_lt_of_le (Heap.lt_size (I.pin p hp).1) (by rw [z]; exact hb)) (Nat.lt_irrefl _)
structure Turn (P : Program) (w : World) (K : PySem.W.Frag) (tg : Expr) (J : It) (fp : List Addr) (it : Addr) (tn : Nat → Heap → Prop) : Prop where
  mem : it ∈ fp
  obj : ∀ i h, tn i h → ∀ b ∈ fp, ∃ o, h.get? b = some o ∧ ∀ v, o.data ≠ .cell v
  keep : ∀ i h h', tn i h → (∀ b ∈ fp, ∀ o, h.get? b = some o → h'.get? b = some o) → tn i h'
  item : ∀ (X : Cx), X.prog = P → X.w = w → X.K = K → X.calm = true → ∀ (i : Nat) (pins : List (Addr × Obj)) (s : Shared) (σ : St) (H : Hp) (E : Value → Shared → Prop), Inv X pins σ H s → (∀ b ∈ fp, FpOk X pins H b) → tn i s.heap → J.go i H →
    wpAny (model P w) X.A (pyNext (.ref it)) (fun r s1 => ∃ u, r = some u ∧
      wpAny (model P w) X.A (letOwnedTupleGo tg (.ref it) u) (fun _ s2 => ∃ x H', Inv X pins σ H' s2 ∧ RelV x u ∧ J.yld i H x H' ∧ tn (i + 1) s2.heap ∧ ∀ b ∈ fp, H' b = none) E s1) E s
  done : ∀ (X : Cx), X.prog = P → X.w = w → X.K = K → X.calm = true → ∀ (i : Nat) (pins : List (Addr × Obj)) (s : Shared) (σ : St) (H : Hp) (E : Value → Shared → Prop), Inv X pins σ H s → (∀ b ∈ fp, FpOk X pins H b) → tn i s.heap → J.stop i H →
    wpAny (model P w) X.A (pyNext (.ref it)) (fun r s1 => r = none ∧ Inv X pins σ H s1) E s
  self : ∀ (A : Around) (i : Nat) (s : Shared) (Q : Value → Shared → Prop) (E : Value → Shared → Prop), tn i s.heap → Q (.ref it) s → wpAny (model P w) A (pyIter (.ref it)) Q E s
abbrev TI := St → Hp → (It → Hp → Prop) → Prop
/-- an iterator has come -/
def PIE (X : Cx) (pins : List (Addr × Obj)) (σ : St) (tg : Expr) (R : It → Hp → Prop) (itv : Value) (s2 : Shared) : Prop :=
  ∃ (it : Addr) (fp : List Addr) (tn : Nat → Heap → Prop) (J : It) (H' : Hp), itv = .ref it ∧ Inv X pins σ H' s2 ∧ Turn X.prog X.w X.K tg J fp it tn ∧ tn 0 s2.heap ∧ (∀ b ∈ fp, FpOk X pins H' b) ∧ R J H'
def PI (X : Cx) (tg iter : Expr) (wi : TI) : Prop :=
  ∀ (pins : List (Addr × Obj)) (s : Shared) (σ : St) (H : Hp) (R : It → Hp → Prop), Inv X pins σ H s → wi σ H R →
    wpAny (model X.prog X.w) X.A (eval iter X.env) (fun v s1 => wpAny (model X.prog X.w) X.A (pyIter v) (PIE X pins σ tg R) X.xe s1) X.xe s
/-- the step ahead of the store is nothing for an iterator that keeps no tuple -/
theorem go_of {M : Model} {A : Around} {E : Value → Shared → Prop} {s : Shared} {tg : Expr} {it : Addr} {u : Value} {o : Obj} {n : String} {vs : Array Value} {Q : Unit → Shared → Prop} (ho : s.heap.get? it = some o) (hc : o.cls = .type n) (hd : o.data = .fields vs)
    (hn : ["enumerate", "zip", "dict_itemiterator", "dict_reverseitemiterator", "odict_iterator", "itertools.zip_longest", "itertools.pairwise"].contains n = false) (hQ : Q () s) : wpAny M A (letOwnedTupleGo tg (.ref it) u) Q E s := by
  unfold letOwnedTupleGo
  cases tg <;> first
    | exact wpAny_pure hQ
    | (cases u <;> first
        | exact wpAny_pure hQ
        | (refine wpAny_bind (wpAny_load ho ?_)
           rw [hc, hd]
           show wpAny M A (if (["enumerate", "zip", "dict_itemiterator", "dict_reverseitemiterator", "odict_iterator", "itertools.zip_longest", "itertools.pairwise"].contains n && vs[0]? == some (rawInt _)) = true then _ else _) Q E s
           rw [if_neg (by intro h; rw [hn, Bool.false_and] at h; cases h)]
           exact wpAny_pure hQ))
/-- the list at a, as it stands at each turn (a loop may append to it) -/
def Itl (K : PySem.W.Frag) (a : Addr) : It :=
  ⟨fun i H => ∃ xs x, SqL K H a xs ∧ xs[i]? = some x, fun i H x H' => H' = H ∧ ∀ xs, SqL K H a xs → xs[i]? = some x, fun i H => ∃ xs, SqL K H a xs ∧ xs.length ≤ i⟩
/-- lo, lo + 1, .. (n of them) -/
def Itr (lo : Int) (n : Nat) : It := ⟨fun i _ => i < n, fun i H x H' => H' = H ∧ x = .int (lo + i), fun i _ => n ≤ i⟩
theorem turn_list {P : Program} {w : World} {K : PySem.W.Frag} {tg : Expr} (a it : Addr) : Turn P w K tg (Itl K a) [it] it (fun i h => h.IsListIter it a i) where
  mem := by simp
  obj := fun i h st b hb => by
    have e : b = it := by simpa using hb
    subst e
    obtain ⟨o, e, c, d⟩ := st
    exact ⟨o, e, fun v z => by rw [d] at z; cases z⟩
  keep := fun i h h' st k => st.at fun o e => k it (by simp) o e
  item := by
    intro X hP hw hK hc i pins s σ H E I hf st hg
    subst hP hw hK
    obtain ⟨xs, x, hq, hx⟩ := hg
    obtain ⟨its, rv, p, hz⟩ := I.list hq
    obtain ⟨u, hu, ru⟩ := rv.get hx
    obtain ⟨f0, f1, f2, f3, f4, f5⟩ := hf it (by simp)
    refine wpAny_pyNext_list_item st p.isList (x := u) (by simpa using hu) fun h' st' sb => ?_
    have I1 : Inv X pins σ H { s with heap := h' } := I.turned (t' := s.toks) (fun b o hb e => (sb.2 b hb).trans e) f0 f1 f3 f4 f5
    obtain ⟨o, e, c, d⟩ := id st'
    exact ⟨u, rfl, go_of (s := { s with heap := h' }) e c d (by decide) ⟨x, H, I1, ru, ⟨rfl, fun ys hy => by rw [I.list_inj hy hq]; exact hx⟩, st', fun b hb => (hf b hb).1⟩⟩
  done := by
    intro X hP hw hK hc i pins s σ H E I hf st hg
    subst hP hw hK
    obtain ⟨xs, hq, hx⟩ := hg
    obtain ⟨its, rv, p, hz⟩ := I.list hq
    obtain ⟨f0, f1, f2, f3, f4, f5⟩ := hf it (by simp)
    have hl := rv.length
    exact wpAny_pyNext_list_end (I.ok.hd hc) st p.isList (by simp; omega) fun h' eb => ⟨rfl, I.turned (t' := s.toks) (fun b o hb e => eb b o hb e) f0 f1 f3 f4 f5⟩
  self := fun _ _ _ _ _ st h => wpAny_pyIter_listiter st h
theorem turn_range {P : Program} {w : World} {K : PySem.W.Frag} {tg : Expr} (it : Addr) (lo : Int) (n : Nat) : Turn P w K tg (Itr lo n) [it] it (fun i h => IsRangeIter h it (lo + (i : Nat) * 1) ((n : Int) - (i : Nat)) 1) where
  mem := by simp
  obj := fun i h st b hb => by
    have e : b = it := by simpa using hb
    subst e
    exact ⟨_, st, fun v z => by
      have z' : Data.fields _ = Data.cell v := z
      cases z'⟩
  keep := fun i h h' st k => k it (by simp) _ st
  item := by
    intro X hP hw hK hc i pins s σ H E I hf st hg
    subst hP hw hK
    obtain ⟨f0, f1, f2, f3, f4, f5⟩ := hf it (by simp)
    have W := Walks.range (prog := X.prog) (w := X.w) (I.ok.hd hc) it lo 1 n
    refine W.item i s _ _ hg st fun v h' tk hv st' kk => ?_
    obtain ⟨t, rfl⟩ := hv
    have I1 : Inv X pins σ H { s with heap := h', toks := tk } := I.turned (fun b o hb e => kk b o (by simpa using hb) e) f0 f1 f3 f4 f5
    refine ⟨_, rfl, go_of (s := { s with heap := h', toks := tk }) (n := "range_iterator") st' rfl rfl (by decide) ⟨.int (lo + i), H, I1, ⟨t, ?_⟩, ⟨rfl, rfl⟩, st', fun b hb => (hf b hb).1⟩⟩
    rw [Int.mul_one]
  done := by
    intro X hP hw hK hc i pins s σ H E I hf st hg
    subst hP hw hK
    obtain ⟨f0, f1, f2, f3, f4, f5⟩ := hf it (by simp)
    exact wpAny_pyNext_range_end (I.ok.hd hc) st (by have : n ≤ i := hg; omega) fun h' eb => ⟨rfl, I.turned (t' := s.toks) (fun b o hb e => eb b o hb e) f0 f1 f3 f4 f5⟩
  self := fun _ _ _ _ _ st h => wpAny_pyIter_rangeiter st h
end L2
namespace L2
open PySem PySem.Spec PyProof.Rows
section
variable {X : Cx} {tg : Expr}
def iList (K : PySem.W.Frag) (tl : TE) : TI := fun σ H R => tl σ H fun x H1 => ∃ a, x = .ref a ∧ (∃ xs, SqL K H1 a xs) ∧ R (Itl K a) H1
theorem pi_list {l : Expr} {tl : TE} (hl : PE X l tl) : PI X tg l (iList X.K tl) := by
  intro pins s σ H R I h
  refine thn (hl pins s σ H _ I h) fun v s1 ⟨x, H1, I1, r1, q1⟩ => ?_
  obtain ⟨a, e, ⟨xs, hq⟩, q⟩ := q1
  subst e
  cases r1
  obtain ⟨its, rv, p, hz⟩ := I1.list hq
  refine wpAny_pyIter_list p.isList ?_
  refine ⟨s1.heap.objs.size, [s1.heap.objs.size], _, _, H1, rfl, I1.kept (t' := s1.toks) fun b o e => Heap.get?_push_of_some _ e, turn_list a _, ⟨_, Heap.get?_push_size _ rfl, rfl, rfl⟩, fun b hb => ?_, q⟩
  have e : b = s1.heap.objs.size := by simpa using hb
  subst e
  exact I1.fpOk (Nat.le_refl _) (I1.hok.fresh (Nat.le_refl _))
/-- a range object just made, walked -/
theorem range_it {pins : List (Addr × Obj)} {σ : St} {H : Hp} {s : Shared} {R : It → Hp → Prop} {E : Value → Shared → Prop} {lo hi : Int} {t u v : Tok} {tk : Nat} (I : Inv X pins σ H s) (h1 : -(2 ^ 62) ≤ lo) (h2 : lo < 2 ^ 62) (h3 : -(2 ^ 62) ≤ hi) (h4 : hi < 2 ^ 62)
    (q : R (Itr lo (hi - lo).toNat) H) : wpAny (model X.prog X.w) X.A (pyIter (.ref s.heap.objs.size)) (PIE X pins σ tg R) E { s with heap := s.heap.push { cls := .type "range", data := .fields #[.int lo t, .int hi u, .int 1 v] }, toks := tk } := by
  refine wpAny_pyIter_range (IsRange.new ..) (small_one h1 h2 h3 h4) ?_
  have I1 : Inv X pins σ H { s with heap := s.heap.push { cls := .type "range", data := .fields #[.int lo t, .int hi u, .int 1 v] }, toks := tk } := I.kept fun b o e => Heap.get?_push_of_some _ e
  refine ⟨(s.heap.push { cls := .type "range", data := .fields #[.int lo t, .int hi u, .int 1 v] }).objs.size, [(s.heap.push { cls := .type "range", data := .fields #[.int lo t, .int hi u, .int 1 v] }).objs.size], _, _, H, rfl,
    I1.kept (t' := tk) fun b o e => Heap.get?_push_of_some _ e, turn_range _ lo (hi - lo).toNat, ?_, fun b hb => ?_, q⟩
  · have e1 : lo + ((0 : Nat) : Int) * 1 = lo := by simp
    have e2 : (((hi - lo).toNat : Nat) : Int) - ((0 : Nat) : Int) = Builtin.Range.rangeSize lo hi 1 := by rw [rangeSize_one]; split <;> omega
    show IsRangeIter _ _ (lo + ((0 : Nat) : Int) * 1) ((((hi - lo).toNat : Nat) : Int) - ((0 : Nat) : Int)) 1
    rw [e1, e2]
    exact Heap.get?_push_size _ rfl
  · have e : b = (s.heap.push { cls := .type "range", data := .fields #[.int lo t, .int hi u, .int 1 v] }).objs.size := by simpa using hb
    subst e
    exact I1.fpOk (Nat.le_refl _) (I1.hok.fresh (Nat.le_refl _))
def iRng1 (ta : TA) : TI := fun σ H R => ta σ H fun vs H1 => ∃ j : Int, vs = [.int j] ∧ -(2 ^ 62) ≤ j ∧ j < 2 ^ 62 ∧ R (Itr 0 j.toNat) H1
theorem pi_range1 {a : Expr} {ta : TA} {p pos : Pos} (hg : Gl X "range") (hm : X.mg "range" = none) (ha : PA X [a] ta) (hs : starEach [a] X.env = [(false, eval a X.env)] := by rfl) : PI X tg (.Call (.Name "range" p) [a] [] pos) (iRng1 ta) := by
  intro pins s σ H R I h
  refine Call_ (ld_blt I hg hm boot_range (PyProof.Rows.callWith_type1 (thn (ha pos pins s σ H _ I h) fun us s1 ⟨vs, H1, I1, r1, q1⟩ => ?_) hs rfl))
  obtain ⟨j, e, q1, q2, q⟩ := q1
  subst e
  cases r1 with
  | cons r rr =>
    cases rr
    obtain ⟨t, rfl⟩ := r
    exact call_range_1 (range_it I1 (by omega) (by omega) q1 q2 (by simpa using q))
/-- W: the invariant by the turn and a measure; N: what the body is to reach -/
def tFor (wi : TI) (g : TG) (tb : TS) : TS := fun D σ H => wi σ H fun J H1 => ∃ W : Nat → Nat → St → Hp → Prop, (∃ m, W 0 m σ H1) ∧ ∀ i m σ H, W i m σ H →
  (J.stop i H ∧ D.nx σ H) ∨ (J.go i H ∧ ∃ N : St → Hp → Prop, (∀ σ' H', N σ' H' → ∃ m', m' < m ∧ W (i + 1) m' σ' H') ∧ ∀ x H', J.yld i H x H' → g x σ H' fun σ2 H2 => tb { D with nx := N, ct := N, bk := D.nx } σ2 H2)
/-- the records at fp as they stand -/
def pinsAt (fp : List Addr) (h : Heap) : List (Addr × Obj) := fp.filterMap fun b => (h.get? b).map fun o => (b, o)
theorem mem_pinsAt {fp : List Addr} {h : Heap} {b : Addr} {o : Obj} (hb : b ∈ fp) (e : h.get? b = some o) : (b, o) ∈ pinsAt fp h := List.mem_filterMap.mpr ⟨b, hb, by rw [e]; rfl⟩
theorem of_pinsAt {fp : List Addr} {h : Heap} {p : Addr × Obj} (hp : p ∈ pinsAt fp h) : p.1 ∈ fp ∧ h.get? p.1 = some p.2 := by
  obtain ⟨b, hb, e⟩ := List.mem_filterMap.mp hp
  cases q : h.get? b with
  | none => rw [q] at e; cases e
  | some o =>
    rw [q] at e
    have e' : (b, o) = p := Option.some.inj e
    subst e'
    exact ⟨hb, q⟩
theorem Inv.pinned {pins : List (Addr × Obj)} {σ : St} {H : Hp} {s : Shared} {fp : List Addr} (I : Inv X pins σ H s) (hf : ∀ b ∈ fp, FpOk X pins H b) (ho : ∀ b ∈ fp, ∃ o, s.heap.get? b = some o ∧ ∀ v, o.data ≠ .cell v) : Inv X (pins ++ pinsAt fp s.heap) σ H s :=
  I.pins_of fun p hp => (List.mem_append.mp hp).elim (fun z => I.pin p (List.mem_append_right _ z)) fun z => by
    obtain ⟨hb, e⟩ := of_pinsAt z
    obtain ⟨f0, f1, f2, _⟩ := hf p.1 hb
    obtain ⟨o, e', d⟩ := ho p.1 hb
    rw [e] at e'; cases e'
    exact ⟨e, f0, f1, f2, d⟩
theorem Inv.unpinned {pins pl : List (Addr × Obj)} {σ : St} {H : Hp} {s : Shared} (I : Inv X (pins ++ pl) σ H s) : Inv X pins σ H s := I.pins_of fun p hp => I.pin p (List.mem_append_right _ (List.mem_append_left _ hp))
theorem ps_for {iter : Expr} {body : List Stmt} {wi : TI} {g : TG} {tb : TS} {pos : Pos} (hp : PassesOwn (model X.prog X.w) X.A X.env X.xe) (hc : X.calm = true) (hi : PI X tg iter wi) (hg : PG X tg g) (hb : PSs X body tb)
    (hs : ∀ x, foldedSetIterable iter X.env x = pure x := by intro _; rfl) : PS X (.For tg iter body [] pos) (tFor wi g tb) := by
  intro pins s σ H D I h
  refine wpAny_For (thn (hi pins s σ H _ I h) fun v s1 h1 => thn h1 fun itv s2 h2 => ?_) hs
  obtain ⟨it, fp, tn, J, H2, e, I2, T, st2, f2, W, ⟨m0, w0⟩, turn⟩ := h2
  subst e
  -- what stays true of the iterator's objects through the loop
  have stat : ∀ {H' : Hp}, (∀ b ∈ fp, H' b = none) → ∀ b ∈ fp, FpOk X pins H' b := fun hn b hb => ⟨hn b hb, (f2 b hb).2⟩
  refine codeAny_forLoop_any (fun n s' => ∃ i σ' H', Inv X pins σ' H' s' ∧ tn i s'.heap ∧ (∀ b ∈ fp, H' b = none) ∧ W i n σ' H') ?_ m0 ⟨0, σ, H2, I2, st2, fun b hb => (f2 b hb).1, w0⟩
  rintro n s3 ⟨i, σ3, H3, I3, st3, fr3, w3⟩
  rcases turn i n σ3 H3 w3 with ⟨stop, qn⟩ | ⟨go, N, hN, step⟩
  · refine wpAny_passesOwn hp (thn (T.done X rfl rfl rfl hc i pins s3 σ3 H3 X.xe I3 (stat fr3) st3 stop) fun r s4 ⟨hr, I4⟩ => ?_)
    subst hr
    exact wpAny_execs_nil ⟨σ3, H3, I4, qn⟩
  · refine wpAny_passesOwn hp (thn (T.item X rfl rfl rfl hc i pins s3 σ3 H3 X.xe I3 (stat fr3) st3 go) fun r s4 ⟨u, hr, h4⟩ => ?_)
    subst hr
    refine wpAny_passesOwn hp (thn h4 fun _ s5 ⟨x, H5, I5, r5, y5, st5, fr5⟩ => ?_)
    have I5' := I5.pinned (stat fr5) (T.obj _ _ st5)
    refine wpAny_passesOwn hp (thn (hg _ s5 σ3 H5 x u _ I5' r5 (step x H5 y5)) fun _ s6 ⟨σ6, H6, I6, q6⟩ => ?_)
    refine wpAny_passesOwn hp (thn (hb _ s6 σ6 H6 _ I6 q6) fun f s7 q7 => ?_)
    have again : ∀ {σ7 : St} {H7 : Hp}, Inv X (pins ++ pinsAt fp s5.heap) σ7 H7 s7 → N σ7 H7 → ∃ m, m < n ∧ ∃ i σ' H', Inv X pins σ' H' s7 ∧ tn i s7.heap ∧ (∀ b ∈ fp, H' b = none) ∧ W i m σ' H' := fun {σ7 H7} I7 n7 => by
      obtain ⟨m', hm, w7⟩ := hN σ7 H7 n7
      refine ⟨m', hm, i + 1, σ7, H7, I7.unpinned, T.keep _ _ _ st5 fun b hb o e => (I7.pin (b, o) (List.mem_append_right _ (List.mem_append_right _ (mem_pinsAt hb e)))).1, fun b hb => ?_, w7⟩
      obtain ⟨o, e, d⟩ := T.obj _ _ st5 b hb
      exact (I7.pin (b, o) (List.mem_append_right _ (List.mem_append_right _ (mem_pinsAt hb e)))).2.1
    cases f with
    | next => obtain ⟨σ7, H7, I7, n7⟩ := q7; exact again I7 n7
    | cont => obtain ⟨σ7, H7, I7, n7⟩ := q7; exact again I7 n7
    | brk => obtain ⟨σ7, H7, I7, q7⟩ := q7; exact ⟨σ7, H7, I7.unpinned, q7⟩
    | ret v => obtain ⟨x7, σ7, H7, I7, r7, q7⟩ := q7; exact ⟨x7, σ7, H7, I7.unpinned, r7, q7⟩
end
/-- over a list that the body leaves as it is -/
theorem for_list {K : PySem.W.Frag} {a : Addr} {xs : List V} {g : TG} {tb : TS} {D : Ends} {σ : St} {H : Hp} (Pv : Nat → St → Hp → Prop) (h0 : Pv 0 σ H) (hl : ∀ i σ H, i ≤ xs.length → Pv i σ H → SqL K H a xs)
    (hs : ∀ i x σ H, xs[i]? = some x → Pv i σ H → g x σ H fun σ2 H2 => tb { D with nx := Pv (i + 1), ct := Pv (i + 1), bk := D.nx } σ2 H2) (hd : ∀ σ H, Pv xs.length σ H → D.nx σ H) :
    ∃ W : Nat → Nat → St → Hp → Prop, (∃ m, W 0 m σ H) ∧ ∀ i m σ H, W i m σ H →
      ((Itl K a).stop i H ∧ D.nx σ H) ∨ ((Itl K a).go i H ∧ ∃ N : St → Hp → Prop, (∀ σ' H', N σ' H' → ∃ m', m' < m ∧ W (i + 1) m' σ' H') ∧ ∀ x H', (Itl K a).yld i H x H' → g x σ H' fun σ2 H2 => tb { D with nx := N, ct := N, bk := D.nx } σ2 H2) := by
  refine ⟨fun i m σ H => m = xs.length - i ∧ i ≤ xs.length ∧ Pv i σ H, ⟨xs.length, by simp, Nat.zero_le _, h0⟩, ?_⟩
  rintro i m σ H ⟨rfl, hi, p⟩
  have q := hl i σ H hi p
  by_cases hlt : i < xs.length
  · refine .inr ⟨⟨xs, xs[i], q, by simp [hlt]⟩, Pv (i + 1), fun σ' H' p' => ⟨xs.length - (i + 1), by omega, rfl, hlt, p'⟩, fun x H' y => ?_⟩
    obtain ⟨e, y⟩ := y
    subst e
    exact hs i x σ _ (y xs q) p
  · have e : i = xs.length := by omega
    subst e
    exact .inl ⟨⟨xs, q, Nat.le_refl _⟩, hd σ H p⟩
theorem for_range {lo : Int} {n : Nat} {g : TG} {tb : TS} {D : Ends} {σ : St} {H : Hp} (Pv : Nat → St → Hp → Prop) (h0 : Pv 0 σ H)
    (hs : ∀ i σ H, i < n → Pv i σ H → g (.int (lo + i)) σ H fun σ2 H2 => tb { D with nx := Pv (i + 1), ct := Pv (i + 1), bk := D.nx } σ2 H2) (hd : ∀ σ H, Pv n σ H → D.nx σ H) :
    ∃ W : Nat → Nat → St → Hp → Prop, (∃ m, W 0 m σ H) ∧ ∀ i m σ H, W i m σ H →
      ((Itr lo n).stop i H ∧ D.nx σ H) ∨ ((Itr lo n).go i H ∧ ∃ N : St → Hp → Prop, (∀ σ' H', N σ' H' → ∃ m', m' < m ∧ W (i + 1) m' σ' H') ∧ ∀ x H', (Itr lo n).yld i H x H' → g x σ H' fun σ2 H2 => tb { D with nx := N, ct := N, bk := D.nx } σ2 H2) := by
  refine ⟨fun i m σ H => m = n - i ∧ i ≤ n ∧ Pv i σ H, ⟨n, by simp, Nat.zero_le _, h0⟩, ?_⟩
  rintro i m σ H ⟨rfl, hi, p⟩
  by_cases hlt : i < n
  · refine .inr ⟨hlt, Pv (i + 1), fun σ' H' p' => ⟨n - (i + 1), by omega, rfl, hlt, p'⟩, fun x H' y => ?_⟩
    obtain ⟨e, y⟩ := y
    subst e y
    exact hs i σ _ hlt p
  · have e : i = n := by omega
    subst e
    exact .inl ⟨Nat.le_refl _, hd σ H p⟩
end L2
namespace L2
open PySem PySem.Spec PyProof.Rows
abbrev R2 := V → V → Hp → VK → Prop
/-- a two-place operation on values: f is binaryOp op, inplaceOp op or compareOp op -/
def OpR (X : Cx) (f : Value → Value → Sem Value) (r : R2) : Prop :=
  ∀ (pins : List (Addr × Obj)) (s : Shared) (σ : St) (H : Hp) (x y : V) (v u : Value) (Q : VK), Inv X pins σ H s → RelV x v → RelV y u → r x y H Q →
    wpAny (model X.prog X.w) X.A (f v u) (EP X pins σ Q) X.xe s
/-- a call of a value that is known (a builtin, a type) with values -/
def CallR (X : Cx) (f : Value) (r : List V → Hp → VK → Prop) : Prop :=
  ∀ (pins : List (Addr × Obj)) (s : Shared) (σ : St) (H : Hp) (xs : List V) (us : List Value) (Q : VK), Inv X pins σ H s → Vals xs us → r xs H Q →
    wpAny (model X.prog X.w) X.A (call f us) (EP X pins σ Q) X.xe s
def tOp (r : R2) (ta tb : TE) : TE := fun σ H Q => ta σ H fun x H1 => tb σ H1 fun y H2 => r x y H2 Q
/-- ints in, under C, and a value out -/
def rI (C : Int → Int → Prop) (g : Int → Int → V) : R2 := fun x y H Q => ∃ i j, x = .int i ∧ y = .int j ∧ C i j ∧ Q (g i j) H
def rI0 (g : Int → Int → V) : R2 := fun x y H Q => ∃ i j, x = .int i ∧ y = .int j ∧ Q (g i j) H
section
variable {X : Cx} {a b c : Expr} {ta tb tc : TE} {pos : Pos}
theorem binT (ha : PE X a ta) (hb : PE X b tb) {pins : List (Addr × Obj)} {s : Shared} {σ : St} {H : Hp} {R : V → V → Hp → Prop} (I : Inv X pins σ H s)
    (h : ta σ H fun x H1 => tb σ H1 fun y H2 => R x y H2) {Q : Value → Shared → Prop} {f : Value → Value → Sem Value}
    (hf : ∀ v u s2 x y H2, Inv X pins σ H2 s2 → RelV x v → RelV y u → R x y H2 → wpAny (model X.prog X.w) X.A (f v u) Q X.xe s2) :
    wpAny (model X.prog X.w) X.A (eval a X.env) (fun v s₁ => wpAny (model X.prog X.w) X.A (eval b X.env) (fun u s₂ => wpAny (model X.prog X.w) X.A (f v u) Q X.xe s₂) X.xe s₁) X.xe s := by
  refine thn (ha pins s σ H _ I h) fun v s1 ⟨x, H1, I1, r1, q1⟩ => ?_
  refine thn (hb pins s1 σ H1 _ I1 q1) fun u s2 ⟨y, H2, I2, r2, q2⟩ => ?_
  exact hf v u s2 x y H2 I2 r1 r2 q2
theorem pe_op {op : Operator} {r : R2} (ho : OpR X (binaryOp op) r) (ha : PE X a ta) (hb : PE X b tb) : PE X (.BinOp a op b pos) (tOp r ta tb) := by
  intro pins s σ H Q I h
  exact wpAny_BinOp (binT ha hb I h fun v u s2 x y H2 I2 rx ry q => ho pins s2 σ H2 x y v u Q I2 rx ry q)
theorem opI {f : Value → Value → Sem Value} {C : Int → Int → Prop} {g : Int → Int → Int}
    (rule : ∀ (i j : Int) (t u : Tok) (s : Shared) (Q : Value → Shared → Prop) (E : Value → Shared → Prop), C i j → Q (.int (g i j) s.toks) { s with toks := s.toks + 1 } → wpAny (model X.prog X.w) X.A (f (.int i t) (.int j u)) Q E s) :
    OpR X f (rI C fun i j => .int (g i j)) := by
  intro pins s σ H x y v u Q I rx ry h
  obtain ⟨i, j, rfl, rfl, hc, q⟩ := h
  obtain ⟨t, rfl⟩ := rx
  obtain ⟨t', rfl⟩ := ry
  exact rule i j t t' s _ _ hc ⟨.int (g i j), H, I.tok _, ⟨_, rfl⟩, q⟩
theorem opI0 {f : Value → Value → Sem Value} {g : Int → Int → Int}
    (rule : ∀ (i j : Int) (t u : Tok) (s : Shared) (Q : Value → Shared → Prop) (E : Value → Shared → Prop), Q (.int (g i j) s.toks) { s with toks := s.toks + 1 } → wpAny (model X.prog X.w) X.A (f (.int i t) (.int j u)) Q E s) :
    OpR X f (rI0 fun i j => .int (g i j)) := by
  intro pins s σ H x y v u Q I rx ry h
  obtain ⟨i, j, rfl, rfl, q⟩ := h
  obtain ⟨t, rfl⟩ := rx
  obtain ⟨t', rfl⟩ := ry
  exact rule i j t t' s _ _ ⟨.int (g i j), H, I.tok _, ⟨_, rfl⟩, q⟩
theorem opB0 {f : Value → Value → Sem Value} {g : Int → Int → Bool}
    (rule : ∀ (i j : Int) (t u : Tok) (s : Shared) (Q : Value → Shared → Prop) (E : Value → Shared → Prop), Q (.bool (g i j)) s → wpAny (model X.prog X.w) X.A (f (.int i t) (.int j u)) Q E s) :
    OpR X f (rI0 fun i j => .bl (g i j)) := by
  intro pins s σ H x y v u Q I rx ry h
  obtain ⟨i, j, rfl, rfl, q⟩ := h
  obtain ⟨t, rfl⟩ := rx
  obtain ⟨t', rfl⟩ := ry
  exact rule i j t t' s _ _ ⟨.bl (g i j), H, I, rfl, q⟩
def CDiv (i j : Int) : Prop := 0 < j ∧ j < 1073741824
def CMul (i j : Int) : Prop := (-(2 ^ 64) < i ∧ i < 2 ^ 64) ∨ (-(2 ^ 64) < j ∧ j < 2 ^ 64)
theorem CMul.ok {i j : Int} (h : CMul i j) : IntMulOk i j := by
  rcases h with ⟨h1, h2⟩ | ⟨h1, h2⟩
  · exact .of_left (intBits_le_64 h1 h2)
  · exact .of_right (intBits_le_64 h1 h2)
theorem op_add : OpR X (binaryOp .Add) (rI0 fun i j => .int (i + j)) := opI0 fun _ _ _ _ _ _ _ q => add_int q
theorem op_sub : OpR X (binaryOp .Sub) (rI0 fun i j => .int (i - j)) := opI0 fun _ _ _ _ _ _ _ q => sub_int q
theorem op_mul : OpR X (binaryOp .Mult) (rI CMul fun i j => .int (i * j)) := opI fun _ _ _ _ _ _ _ hc q => mul_int q hc.ok
/-- // by a positive divisor -/
theorem op_fdiv : OpR X (binaryOp .FloorDiv) (rI CDiv fun i j => .int (i / j)) := opI fun i j _ _ _ _ _ hc q => by
  have h1 : (0 : Int) < j := hc.1
  have h2 : j < 1073741824 := hc.2
  exact floordiv_int (by omega) (by rw [Int.fdiv_eq_ediv_of_nonneg i (by omega)]; exact q) (.inl (PyProof.noPylong_small (by omega)))
/-- % by a positive divisor of any size -/
theorem op_mod : OpR X (binaryOp .Mod) (rI (fun _ j => 0 < j) fun i j => .int (i % j)) := opI fun i j _ _ _ _ _ hc q => by
  have h1 : (0 : Int) < j := hc
  exact mod_int' (by omega) (by rw [Int.fmod_eq_emod_of_nonneg i (by omega)]; exact q)
end
/-- the scalars that == tells apart as data does -/
def scal : V → V → Bool
  | .non, .non => true | .non, .int _ => true | .int _, .non => true | .non, .bl _ => true | .bl _, .non => true | .non, .str _ => true | .str _, .non => true
  | .int _, .int _ => true | .bl _, .bl _ => true | .str _, .str _ => true | .byt _, .byt _ => true
  | .int _, .str _ => true | .str _, .int _ => true | .bl _, .str _ => true | .str _, .bl _ => true
  | _, _ => false
def rEq : R2 := fun x y H Q => scal x y = true ∧ Q (.bl (decide (x = y))) H
def rNe : R2 := fun x y H Q => scal x y = true ∧ Q (.bl (!decide (x = y))) H
theorem dec_int {i j : Int} : decide (V.int i = V.int j) = (i == j) := by
  rw [Bool.eq_iff_iff]
  simp
theorem dec_bl {i j : Bool} : decide (V.bl i = V.bl j) = (i == j) := by
  rw [Bool.eq_iff_iff]
  simp
theorem dec_str {i j : Str} : decide (V.str i = V.str j) = (i == j) := by
  rw [Bool.eq_iff_iff]
  simp
theorem dec_byt {i j : Array UInt8} : decide (V.byt i = V.byt j) = (i.toList == j.toList) := by
  rw [Bool.eq_iff_iff]
  cases i
  cases j
  simp
section
variable {X : Cx} {a b c : Expr} {ta tb tc : TE} {pos : Pos}
theorem fin_bl {pins : List (Addr × Obj)} {σ : St} {H : Hp} {s : Shared} {Q : VK} {k k' : Bool} (I : Inv X pins σ H s) (q : Q (.bl k) H) (e : k = k') : EP X pins σ Q (.bool k') s := by
  subst e
  exact ⟨.bl k, H, I, rfl, q⟩
theorem op_eq : OpR X (compareOp .Eq) rEq := by
  intro pins s σ H x y v u Q I rx ry h
  obtain ⟨hs, q⟩ := h
  cases x with
  | non =>
    cases rx
    cases y with
    | non => cases ry; exact PySem.EqNone.eq_none_none (fin_bl I q (by simp))
    | bl j => cases ry; exact PySem.EqNone.eq_none_bool (fin_bl I q (by simp))
    | int j => obtain ⟨t', rfl⟩ := ry; exact PySem.EqNone.eq_none_int (fin_bl I q (by simp))
    | str j => obtain ⟨t', rfl⟩ := ry; exact PySem.EqNone.eq_none_str (fin_bl I q (by simp))
    | _ => exact absurd (show false = true from hs) Bool.false_ne_true
  | bl i =>
    cases rx
    cases y with
    | non => cases ry; exact PySem.EqNone.eq_bool_none (fin_bl I q (by simp))
    | bl j => cases ry; exact eq_bool (fin_bl I q dec_bl)
    | str j => obtain ⟨t', rfl⟩ := ry; exact PySem.EqMixed.eq_bool_str (fin_bl I q (by simp))
    | _ => exact absurd (show false = true from hs) Bool.false_ne_true
  | int i =>
    obtain ⟨t, rfl⟩ := rx
    cases y with
    | non => cases ry; exact PySem.EqNone.eq_int_none (fin_bl I q (by simp))
    | int j => obtain ⟨t', rfl⟩ := ry; exact eq_int (fin_bl I q dec_int)
    | str j => obtain ⟨t', rfl⟩ := ry; exact PySem.EqMixed.eq_int_str (fin_bl I q (by simp))
    | _ => exact absurd (show false = true from hs) Bool.false_ne_true
  | str i =>
    obtain ⟨t, rfl⟩ := rx
    cases y with
    | non => cases ry; exact PySem.EqNone.eq_str_none (fin_bl I q (by simp))
    | bl j => cases ry; exact PySem.EqMixed.eq_str_bool (fin_bl I q (by simp))
    | int j => obtain ⟨t', rfl⟩ := ry; exact PySem.EqMixed.eq_str_int (fin_bl I q (by simp))
    | str j => obtain ⟨t', rfl⟩ := ry; exact eq_str (fin_bl I q dec_str)
    | _ => exact absurd (show false = true from hs) Bool.false_ne_true
  | byt i =>
    obtain ⟨t, rfl⟩ := rx
    cases y with
    | byt j => obtain ⟨t', rfl⟩ := ry; exact PySem.W.eq_bytes (fin_bl I q dec_byt)
    | _ => exact absurd (show false = true from hs) Bool.false_ne_true
  | _ => cases y <;> exact absurd (show false = true from hs) Bool.false_ne_true
theorem op_ne : OpR X (compareOp .NotEq) rNe := by
  intro pins s σ H x y v u Q I rx ry h
  obtain ⟨hs, q⟩ := h
  cases x with
  | non =>
    cases rx
    cases y with
    | non => cases ry; exact PySem.EqNone.ne_none_none (fin_bl I q (by simp))
    | bl j => cases ry; exact PySem.EqNone.ne_none_bool (fin_bl I q (by simp))
    | int j => obtain ⟨t', rfl⟩ := ry; exact PySem.EqNone.ne_none_int (fin_bl I q (by simp))
    | str j => obtain ⟨t', rfl⟩ := ry; exact PySem.EqNone.ne_none_str (fin_bl I q (by simp))
    | _ => exact absurd (show false = true from hs) Bool.false_ne_true
  | bl i =>
    cases rx
    cases y with
    | non => cases ry; exact PySem.EqNone.ne_bool_none (fin_bl I q (by simp))
    | bl j => cases ry; exact ne_bool (fin_bl I q (congrArg not dec_bl))
    | str j => obtain ⟨t', rfl⟩ := ry; exact PySem.EqMixed.ne_bool_str (fin_bl I q (by simp))
    | _ => exact absurd (show false = true from hs) Bool.false_ne_true
  | int i =>
    obtain ⟨t, rfl⟩ := rx
    cases y with
    | non => cases ry; exact PySem.EqNone.ne_int_none (fin_bl I q (by simp))
    | int j => obtain ⟨t', rfl⟩ := ry; exact ne_int (fin_bl I q (congrArg not dec_int))
    | str j => obtain ⟨t', rfl⟩ := ry; exact PySem.EqMixed.ne_int_str (fin_bl I q (by simp))
    | _ => exact absurd (show false = true from hs) Bool.false_ne_true
  | str i =>
    obtain ⟨t, rfl⟩ := rx
    cases y with
    | non => cases ry; exact PySem.EqNone.ne_str_none (fin_bl I q (by simp))
    | bl j => cases ry; exact PySem.EqMixed.ne_str_bool (fin_bl I q (by simp))
    | int j => obtain ⟨t', rfl⟩ := ry; exact PySem.EqMixed.ne_str_int (fin_bl I q (by simp))
    | str j => obtain ⟨t', rfl⟩ := ry; exact ne_str (fin_bl I q (congrArg not dec_str))
    | _ => exact absurd (show false = true from hs) Bool.false_ne_true
  | byt i =>
    obtain ⟨t, rfl⟩ := rx
    cases y with
    | byt j => obtain ⟨t', rfl⟩ := ry; exact PySem.W.ne_bytes (fin_bl I q (congrArg not dec_byt))
    | _ => exact absurd (show false = true from hs) Bool.false_ne_true
  | _ => cases y <;> exact absurd (show false = true from hs) Bool.false_ne_true
theorem op_lt : OpR X (compareOp .Lt) (rI0 fun i j => .bl (decide (i < j))) := opB0 fun _ _ _ _ _ _ _ q => lt_int q
theorem op_gt : OpR X (compareOp .Gt) (rI0 fun i j => .bl (decide (j < i))) := opB0 fun _ _ _ _ _ _ _ q => gt_int q
theorem op_ge : OpR X (compareOp .GtE) (rI0 fun i j => .bl (decide (j ≤ i))) := opB0 fun _ _ _ _ _ _ _ q => ge_int q
/-- the one string within the other -/
theorem op_in_str : OpR X (compareOp .In) (fun x y H Q => ∃ i j, x = .str i ∧ y = .str j ∧ Q (.bl (!(Builtin.Str.occurrences j i 0 j.length 1).isEmpty)) H) := by
  intro pins s σ H x y v u Q I rx ry h
  obtain ⟨i, j, rfl, rfl, q⟩ := h
  obtain ⟨t, rfl⟩ := rx
  obtain ⟨t', rfl⟩ := ry
  exact in_str (fin_bl I q rfl)
theorem nomark (b : Expr) {op : CmpOp} (h : op ≠ .In := by decide) (h2 : op ≠ .NotIn := by decide) : behindInMarks op b = false := by
  have e1 : (op == CmpOp.In) = false := by cases op <;> first | rfl | exact absurd rfl h
  have e2 : (op == CmpOp.NotIn) = false := by cases op <;> first | rfl | exact absurd rfl h2
  cases b <;> simp [behindInMarks, e1, e2]
/-- a comparison as a value; hm: nomark b, or (for in, not in) by with_unfolding_all rfl -/
theorem pe_cmpR {op : CmpOp} {r : R2} (ho : OpR X (compareOp op) r) (ha : PE X a ta) (hb : PE X b tb) (hm : behindInMarks op b = false) : PE X (.Compare a [op] [b] pos) (tOp r ta tb) := by
  intro pins s σ H Q I h
  exact wpAny_Compare1 (binT ha hb I h fun v u s2 x y H2 I2 rx ry q => ho pins s2 σ H2 x y v u Q I2 rx ry q) hm
/-- a reading of a value as a test -/
def tTest (t : TE) : TT := fun σ H Q => t σ H fun x H' => ∃ k, x = .bl k ∧ Q k H'
theorem pt_cmpR {op : CmpOp} {r : R2} (ho : OpR X (compareOp op) r) (ha : PE X a ta) (hb : PE X b tb) (hm : behindInMarks op b = false) : PT X (.Compare a [op] [b] pos) (tTest (tOp r ta tb)) := by
  intro pins s σ H Q I h
  refine wpAny_isTrue_Compare1 (thn (ha pins s σ H _ I h) fun v s1 ⟨x, H1, I1, r1, q1⟩ => thn (hb pins s1 σ H1 _ I1 q1) fun u s2 ⟨y, H2, I2, r2, q2⟩ =>
    thn (ho pins s2 σ H2 x y v u _ I2 r1 r2 q2) fun c s3 ⟨z, H3, I3, r3, k, e, q3⟩ => ?_) hm
  subst e
  cases r3
  exact wpAny_truthy_bool ⟨H3, I3, q3⟩
theorem line63 : (sizeLine : Nat) < 2 ^ 63 := by rw [sizeLine_eq]; decide
theorem op_add_str : OpR X (binaryOp .Add) (fun x y H Q => ∃ i j, x = .str i ∧ y = .str j ∧ i.length + j.length ≤ sizeLine ∧ Q (.str (i ++ j)) H) := by
  intro pins s σ H x y v u Q I rx ry h
  obtain ⟨i, j, rfl, rfl, hz, q⟩ := h
  obtain ⟨t, rfl⟩ := rx
  obtain ⟨t', rfl⟩ := ry
  exact add_str (fun t' tk => ⟨.str (i ++ j), H, I.tok _, ⟨_, rfl⟩, q⟩) hz
theorem vals1 {x : V} {us : List Value} (r : Vals [x] us) : ∃ u, us = [u] ∧ RelV x u := by
  cases r with
  | cons r1 r2 => cases r2; exact ⟨_, rfl, r1⟩
theorem vals2 {x y : V} {us : List Value} (r : Vals [x, y] us) : ∃ u w', us = [u, w'] ∧ RelV x u ∧ RelV y w' := by
  cases r with
  | cons r1 r2 =>
    cases r2 with
    | cons r3 r4 => cases r4; exact ⟨_, _, rfl, r1, r3⟩
theorem call_min2 (hc : X.calm = true) : CallR X (.builtin "min") (fun xs H Q => ∃ i j, xs = [.int i, .int j] ∧ Q (.int (if j < i then j else i)) H) := by
  intro pins s σ H xs us Q I r h
  obtain ⟨i, j, rfl, q⟩ := h
  obtain ⟨u, w', rfl, ⟨t, rfl⟩, ⟨t', rfl⟩⟩ := vals2 r
  refine min_two_ints (I.ok.hd hc) fun h' tk k => ⟨_, H, I.kept k, ?_, q⟩
  by_cases hj : j < i
  · rw [if_pos hj, if_pos hj]; exact ⟨_, rfl⟩
  · rw [if_neg hj, if_neg hj]; exact ⟨_, rfl⟩
theorem call_str_int : CallR X (.type "str") (fun xs H Q => ∃ i, xs = [.int i] ∧ i.natAbs.log2 < 1920 ∧ Q (.str (toString i)) H) := by
  intro pins s σ H xs us Q I r h
  obtain ⟨i, rfl, hz, q⟩ := h
  obtain ⟨u, rfl, t, rfl⟩ := vals1 r
  exact PySem.P.str_of_int hz ⟨.str _, H, I.tok _, ⟨_, rfl⟩, q⟩
end
end L2
namespace L2
open PySem PySem.Spec PyProof.Rows
structure ObjM (h : Heap) (x dx C : Addr) (mA : Str → Option Value) : Prop where
  obj : h.get? x = some (PySem.W.instObj C dx)
  ns : h.Ns1 dx mA
  ne : dx ≠ x
theorem lookIn_ns {h : Heap} {dx : Addr} {mA : Str → Option Value} (n : h.Ns1 dx mA) : ∃ od, h.get? dx = some od ∧ ∀ name, PySem.W.lookIn name od = some (mA name) := by
  obtain ⟨o, es, ep, ho, hd, hk, _, hm⟩ := n
  refine ⟨o, ho, fun name => ?_⟩
  have e := hm name
  unfold nsFind findBy at e
  rw [← Array.find?_toList] at e
  unfold PySem.W.lookIn
  rw [hd]
  dsimp only
  split
  · rename_i y q
    rw [q] at e
    exact congrArg some e
  · rename_i q
    rw [q] at e
    have a : es.toList.any (·.refKey) = false := by
      rw [List.any_eq_false]
      intro y hy
      obtain ⟨z, t, hkey⟩ := hk y (Array.mem_toList_iff.mp hy)
      simp [DictEntry.refKey, hkey]
    have a' : ¬ es.toList.any (·.refKey) = true := by rw [a]; exact Bool.false_ne_true
    rw [if_neg a']
    exact congrArg some e
theorem ObjM.look {h : Heap} {x dx C : Addr} {mA : Str → Option Value} (I : ObjM h x dx C mA) : ∃ od, PySem.W.InstAt h x (PySem.W.instObj C dx) C (some od) ∧ ∀ name, PySem.W.lookIn name od = some (mA name) :=
  let ⟨od, ho, hl⟩ := lookIn_ns I.ns
  ⟨od, ⟨I.obj, rfl, rfl, ho⟩, hl⟩
section
variable {prog : Program} {w : World} {A : Around} {E : Value → Shared → Prop} {s : Shared} {K : PySem.W.Frag} {x dx C f : Addr} {mA : Str → Option Value} {name : Str} {v : Value}
theorem get_map {expr : Bool} {Q : Value → Shared → Prop} (X : K.In s.heap) (I : ObjM s.heap x dx C mA) (hg : PySem.W.plainGet K C name = true) (hh : PySem.W.hasDictIn K C = true)
    (ha : PySem.W.findIn K (.ref C) name = some none) (hv : mA name = some v) (hv' : PySem.W.handedIn v = true) (h : Q v { s with toks := s.toks + 1 }) :
    wpAny (model prog w) A (getAttr (.ref x) name expr) Q E s := by
  obtain ⟨od, J, hl⟩ := I.look
  exact PySem.W.get_value X J (PySem.W.plainGet_of hg).1 (PySem.W.findObj_own hh ha rfl (by rw [hl, hv])) hv' h
theorem get_meth {pl : Sem Bool} {Q : Value × List Value → Shared → Prop} (X : K.In s.heap) (I : ObjM s.heap x dx C mA) (hg : PySem.W.plainGet K C name = true)
    (hf : PySem.W.findIn K (.ref C) name = some (some (.ref f))) (ht : PySem.W.isFn K (.ref f) = true) (hv : mA name = none) (h : Q (.ref f, [.ref x]) s) :
    wpAny (model prog w) A (getMethod (.ref x) name pl) Q E s := by
  obtain ⟨od, J, hl⟩ := I.look
  exact PySem.W.method_fn X J (PySem.W.plainGet_of hg).1 (PySem.W.plainGet_of hg).2 hf (beq_iff_eq.mp ht) (by show (PySem.W.lookIn name od).map (·.isSome) = some false; rw [hl, hv]; rfl) h
theorem set_map {ns : List Str} {Q : Unit → Shared → Prop} (X : K.In s.heap) (I : ObjM s.heap x dx C mA)
    (hs : PySem.W.findIn K (.ref C) "__setattr__" = some (some (.builtin "object.__setattr__"))) (hp : PySem.W.plainOver K C = true) (ht : PySem.W.takerIn K C name = some none) (hh : PySem.W.hasDictIn K C = true)
    (hw : PySem.Within mA ns) (hsz : ns.length ≤ sizeLine)
    (h : ∀ h', ObjM h' x dx C (fun y => if y = name then some v else mA y) → Heap.SameBut dx s.heap h' → Q () { s with heap := h', toks := s.toks + 2 }) :
    wpAny (model prog w) A (setAttr (.ref x) name v) Q E s := by
  obtain ⟨od, J, hl⟩ := I.look
  refine PySem.W.set_plain X J hs (PySem.W.osa_open (s := { s with toks := s.toks + 1 }) (r := none) X J hp ht fun b => ?_)
  obtain ⟨cd, hc, hd'⟩ := PySem.W.any_some hh
  have hx : s.heap.get? x = some ⟨.ref C, some dx, .plain, #[]⟩ := I.obj
  refine wpAny_bind (wpAny_pure (wpAny_bind (wpAny_bind (wpAny_loadPart hx (wpAny_bind (PySem.W.Looks.here (s := { s with toks := s.toks + 1 }) (PySem.W.looks_clsIn X hc) ?_))))))
  rw [hd']
  refine wpAny_pure (a := some dx) (wpAny_bind (wpAny_pure (wpAny_bind ?_)))
  refine wpAny_nsSet1 (s := { s with toks := s.toks + 1 }) I.ns fun h' hn2 hs2 => ?_
  obtain ⟨oD, esD, epD, hoD, hdD, hcD⟩ := hn2.count (PySem.Within.cons name v hw)
  refine wpAny_bind (wpAny_lookBehind hoD (by rw [hdD]; exact pastItsLine_dict (Nat.le_trans hcD (by rw [List.length_cons]; omega))) ?_)
  exact wpAny_pure (h _ ⟨(hs2.2 _ (Ne.symm I.ne)).trans I.obj, hn2, I.ne⟩ hs2)
/-- C(..): the dict at the heap's end, the instance behind it; then its __init__ -/
theorem make_map {R : Result → Shared → Prop} {vs : List Value} {kw : List (Str × Value)} (X : K.In s.heap) (hm : PySem.W.makesIn K C = true)
    (hi : PySem.W.findIn K (.ref C) "__init__" = some (some (.ref f))) (hf : PySem.W.typeIn K (.ref f) = some (.type "function"))
    (h : codeAny (model prog w) (A.under (.builtin "type.__call__" ⟨.ref C :: vs, kw⟩)) (.call (.ref f) ⟨.ref (s.heap.objs.size + 1) :: vs, kw⟩) (PySem.W.InitBack (s.heap.objs.size + 1) R)
      { s with heap := (s.heap.push PySem.W.emptyDict).push (PySem.W.instObj C s.heap.objs.size) }) :
    codeAny (model prog w) A (.call (.ref C) ⟨vs, kw⟩) R s := by
  obtain ⟨hh, g, d, t, os⟩ := s
  exact PySem.W.make_core (PySem.W.makes_of X hm) (PySem.W.looks_findIn X hi) (fun self => PySem.W.bind_fn X self hf) (.inl rfl) h
end
def putF (f : Str) (v : V) : List (Str × V) → List (Str × V)
  | [] => [(f, v)]
  | (g, x) :: r => if g = f then (g, v) :: r else (g, x) :: putF f v r
theorem lookup_putF (f g : Str) (v : V) : ∀ fs : List (Str × V), (putF f v fs).lookup g = if g = f then some v else fs.lookup g
  | [] => by
    show List.lookup g [(f, v)] = _
    by_cases h : g = f
    · have hb : (g == f) = true := beq_iff_eq.mpr h
      simp only [List.lookup, hb, if_pos h]
    · have hb : (g == f) = false := beq_eq_false_iff_ne.mpr h
      simp only [List.lookup, hb, if_neg h]
  | (k, x) :: r => by
    have ih := lookup_putF f g v r
    rw [show putF f v ((k, x) :: r) = (if k = f then (k, v) :: r else (k, x) :: putF f v r) from rfl]
    by_cases hk : k = f
    · rw [if_pos hk]
      by_cases h : g = k
      · have hb : (g == k) = true := beq_iff_eq.mpr h
        simp only [List.lookup, hb, if_pos (h.trans hk)]
      · have hb : (g == k) = false := beq_eq_false_iff_ne.mpr h
        simp only [List.lookup, hb, if_neg (fun e : g = f => h (e.trans hk.symm))]
    · rw [if_neg hk]
      by_cases h : g = k
      · have hb : (g == k) = true := beq_iff_eq.mpr h
        simp only [List.lookup, hb, if_neg (fun e : g = f => hk (h.symm.trans e))]
      · have hb : (g == k) = false := beq_eq_false_iff_ne.mpr h
        simp only [List.lookup, hb]
        exact ih
theorem keys_putF (f : Str) (v : V) : ∀ fs : List (Str × V), f ∈ (putF f v fs).map (·.1) ∧ ∀ g, g ∈ fs.map (·.1) → g ∈ (putF f v fs).map (·.1)
  | [] => ⟨by simp [putF], fun g h => by simp at h⟩
  | (k, x) :: r => by
    obtain ⟨i1, i2⟩ := keys_putF f v r
    rw [show putF f v ((k, x) :: r) = (if k = f then (k, v) :: r else (k, x) :: putF f v r) from rfl]
    by_cases hk : k = f
    · rw [if_pos hk]
      subst hk
      exact ⟨by simp, fun g h => by simpa using h⟩
    · rw [if_neg hk]
      refine ⟨?_, fun g h => ?_⟩
      · rw [List.map_cons]
        exact List.mem_cons_of_mem _ i1
      · rw [List.map_cons] at h ⊢
        rcases List.mem_cons.mp h with e | e
        · exact List.mem_cons.mpr (.inl e)
        · exact List.mem_cons_of_mem _ (i2 g e)
theorem length_putF (f : Str) (v : V) : ∀ fs : List (Str × V), (putF f v fs).length ≤ fs.length + 1
  | [] => by simp [putF]
  | (k, x) :: r => by
    have ih := length_putF f v r
    rw [show putF f v ((k, x) :: r) = (if k = f then (k, v) :: r else (k, x) :: putF f v r) from rfl]
    by_cases hk : k = f
    · rw [if_pos hk, List.length_cons, List.length_cons]; omega
    · rw [if_neg hk, List.length_cons, List.length_cons]; omega
theorem RelO.some_of {v : V} {o : Option Value} (r : RelO (some v) o) : ∃ u, o = some u ∧ RelV v u := by
  cases o with
  | none => exact (show False from r).elim
  | some u => exact ⟨u, rfl, r⟩
theorem RelO.none_of {o : Option Value} (r : RelO none o) : o = none := by
  cases o with
  | none => rfl
  | some u => exact (show False from r).elim
theorem handed_of {v : V} {u : Value} (r : RelV v u) : PySem.W.handedIn u = true := by
  cases v with
  | non => cases (show u = Value.none from r); rfl
  | bl b => cases (show u = Value.bool b from r); rfl
  | int i => obtain ⟨t, e⟩ := (show ∃ t, u = Value.int i t from r); cases e; rfl
  | str x => obtain ⟨t, e⟩ := (show ∃ t, u = Value.str x t from r); cases e; rfl
  | byt b => obtain ⟨t, e⟩ := (show ∃ t, u = Value.bytes b t from r); cases e; rfl
  | flt b => obtain ⟨t, e⟩ := (show ∃ t, u = Value.float b t from r); cases e; rfl
  | ref a => cases (show u = Value.ref a from r); rfl
  | ty n => cases (show u = Value.type n from r); rfl
section
variable {P : Program} {w : World} {H H' : Hp} {h h' : Heap} {a C dx : Addr} {fs fs' : List (Str × V)}
theorem ins_get (hok : HOk P w H h) (e : H a = some (.ins C dx fs)) : ∃ mA, ObjM h a dx C mA ∧ (∀ f, RelO (fs.lookup f) (mA f)) ∧ PySem.Within mA (fs.map (·.1)) ∧ fs.length ≤ 1000 ∧ H dx = some (.own a) := by
  obtain ⟨d, z, ne, ob, mA, n, r, q⟩ := (show ObjOk P w H h a (.ins C dx fs) from hok a _ e)
  exact ⟨mA, ⟨ob, n, ne⟩, r, q, z, d⟩
end
structure Cls (K : PySem.W.Frag) (C : Addr) : Prop where
  pg : PySem.W.plainGet K C Str.empty = true
  hd : PySem.W.hasDictIn K C = true
  po : PySem.W.plainOver K C = true
  sa : PySem.W.findIn K (.ref C) "__setattr__" = some (some (.builtin "object.__setattr__"))
theorem Cls.get {K : PySem.W.Frag} {C : Addr} (c : Cls K C) (f : Str) : PySem.W.plainGet K C f = true := c.pg
/-- no class of it has the name -/
def NoAttr (K : PySem.W.Frag) (C : Addr) (f : Str) : Prop := PySem.W.findIn K (.ref C) f = some none
theorem NoAttr.taker {K : PySem.W.Frag} {C : Addr} {f : Str} (n : NoAttr K C f) : PySem.W.takerIn K C f = some none := by
  unfold PySem.W.takerIn
  rw [show PySem.W.findIn K (.ref C) f = some none from n]
  rfl
/-- a method: a plain def of the class or of one above it -/
structure Meth (K : PySem.W.Frag) (C : Addr) (m : Str) (f : Addr) : Prop where
  at_ : PySem.W.findIn K (.ref C) m = some (some (.ref f))
  fn : PySem.W.isFn K (.ref f) = true
  kp : PySem.W.keepIn K (.ref f) = true
section
variable {X : Cx} {pins : List (Addr × Obj)} {σ : St} {H : Hp} {s : Shared} {a C dx : Addr} {fs : List (Str × V)} {f : Str} {v : V} {A : Around} {E : Value → Shared → Prop}
theorem getattr_ok {b : Bool} {Q : Value → Shared → Prop} (I : Inv X pins σ H s) (e : H a = some (.ins C dx fs)) (c : Cls X.K C) (n : NoAttr X.K C f) (l : fs.lookup f = some v)
    (h : ∀ u s', Inv X pins σ H s' → RelV v u → Q u s') : wpAny (model X.prog X.w) A (getAttr (.ref a) f b) Q E s := by
  obtain ⟨mA, O, r, _, _, _⟩ := ins_get I.hok e
  obtain ⟨u, hu, ru⟩ := RelO.some_of (v := v) (o := mA f) (by rw [← l]; exact r f)
  exact get_map I.kIn O (c.get f) c.hd n hu (handed_of ru) (h u _ (I.tok _) ru)
theorem getmeth_ok {m : Str} {g : Addr} {pl : Sem Bool} {Q : Value × List Value → Shared → Prop} (I : Inv X pins σ H s) (e : H a = some (.ins C dx fs)) (c : Cls X.K C) (k : Meth X.K C m g) (l : fs.lookup m = none)
    (h : Q (.ref g, [.ref a]) s) : wpAny (model X.prog X.w) A (getMethod (.ref a) m pl) Q E s := by
  obtain ⟨mA, O, r, _, _, _⟩ := ins_get I.hok e
  have hn : mA m = none := RelO.none_of (by rw [← l]; exact r m)
  exact get_meth I.kIn O (c.get m) k.at_ k.fn hn h
theorem setattr_ok {y : V} {u : Value} {Q : Unit → Shared → Prop} (I : Inv X pins σ H s) (e : H a = some (.ins C dx fs)) (c : Cls X.K C) (n : NoAttr X.K C f) (hl : fs.length < 1000) (ry : RelV y u)
    (h : ∀ s', Inv X pins σ (upd H a (.ins C dx (putF f y fs))) s' → Q () s') : wpAny (model X.prog X.w) A (setAttr (.ref a) f u) Q E s := by
  obtain ⟨mA, O, r, wi, _, ho⟩ := ins_get I.hok e
  have hz : (fs.map (·.1)).length ≤ sizeLine := by rw [List.length_map, sizeLine_eq]; omega
  refine set_map I.kIn O c.sa c.po n.taker c.hd wi hz fun h' O' sb => h _ ?_
  have hd : ∃ o, h'.get? dx = some o := let ⟨o, _, _, e', _⟩ := O'.ns; ⟨o, e'⟩
  refine I.write (x := a) (e := dx) (by rw [e]; exact True.intro) (.inr ho) (fun b q hb z => (sb.2 b hb).trans z) hd ?_
  refine ⟨by rw [upd_ne O.ne]; exact ho, ?_, O.ne, O'.obj, _, O'.ns, fun g => ?_, fun g hg => ?_⟩
  · have := length_putF f y fs; omega
  · show RelO ((putF f y fs).lookup g) (if g = f then some u else mA g)
    rw [lookup_putF]
    by_cases q : g = f
    · rw [if_pos q, if_pos q]; exact ry
    · rw [if_neg q, if_neg q]; exact r g
  · by_cases q : g = f
    · rw [q]; exact (keys_putF f y fs).1
    · refine (keys_putF f y fs).2 g (wi g fun z => hg ?_)
      show (if g = f then some u else mA g) = none
      rw [if_neg q]; exact z
/-- a new instance, tracked, without attributes -/
theorem Inv.made (I : Inv X pins σ H s) : Inv X pins σ (upd (upd H s.heap.objs.size (.own (s.heap.objs.size + 1))) (s.heap.objs.size + 1) (.ins C s.heap.objs.size []))
    { s with heap := (s.heap.push PySem.W.emptyDict).push (PySem.W.instObj C s.heap.objs.size) } := by
  have e1 : (s.heap.push PySem.W.emptyDict).get? s.heap.objs.size = some PySem.W.emptyDict := Heap.get?_push_size s.heap rfl
  have e2 : ((s.heap.push PySem.W.emptyDict).push (PySem.W.instObj C s.heap.objs.size)).get? (s.heap.objs.size + 1) = some (PySem.W.instObj C s.heap.objs.size) := by
    have := Heap.get?_push_size (s.heap.push PySem.W.emptyDict) (o := PySem.W.instObj C s.heap.objs.size) rfl
    rwa [Heap.size_push] at this
  have e3 : (s.heap.push PySem.W.emptyDict).Ns s.heap.objs.size (fun _ => none) := ⟨PySem.W.emptyDict, #[], _, e1, rfl, (fun e he => absurd he (by simp)), fun _ => rfl⟩
  have I1 := I.laid (a := s.heap.objs.size) (o := .own (s.heap.objs.size + 1)) (h' := s.heap.push PySem.W.emptyDict) (t' := s.toks) (fun b u q => Heap.get?_push_of_some _ q) (Nat.le_refl _) ⟨_, e1⟩
  refine I1.laid (a := s.heap.objs.size + 1) (o := .ins C s.heap.objs.size []) (t' := s.toks) (fun b u q => Heap.get?_push_of_some _ q) (Nat.le_of_eq (Heap.size_push _ _)) ?_
  have ne : s.heap.objs.size ≠ s.heap.objs.size + 1 := Nat.ne_of_lt (Nat.lt_succ_self _)
  refine ⟨by rw [upd_ne ne, upd_same], Nat.zero_le _, ne, e2, fun _ => none, (Heap.Ns1.of_empty e3).at fun o q => Heap.get?_push_of_some _ q, fun _ => True.intro, fun y hy => absurd rfl hy⟩
/-- e.f where nothing but the object is asked: through attributeBase (super) and the last hold -/
theorem attr_of {prog : Program} {w : World} {env : Env} {e : Expr} {f : Str} {pos : Pos} {s : Shared} {Q : Value → Shared → Prop} (hb : attributeBase e f env (eval e env) = eval e env)
    (h : wpAny (model prog w) A (eval e env) (fun o s₁ => wpAny (model prog w) A (getAttr o f true) Q E s₁) E s) : wpAny (model prog w) A (eval (.Attribute e f pos) env) Q E s :=
  Attribute_any_ h (by rw [arm_eval_Attribute, hb])
end
/-- e.f, an attribute of the instance -/
def tFld (K : PySem.W.Frag) (ta : TE) (f : Str) : TE := fun σ H Q => ta σ H fun x H1 => ∃ a C dx fs v, x = .ref a ∧ H1 a = some (.ins C dx fs) ∧ Cls K C ∧ NoAttr K C f ∧ fs.lookup f = some v ∧ Q v H1
/-- e.f = value -/
def sFld (K : PySem.W.Frag) (ta tv : TE) (f : Str) : TS := fun D σ H => tv σ H fun y H1 => ta σ H1 fun x H2 => ∃ a C dx fs, x = .ref a ∧ H2 a = some (.ins C dx fs) ∧ Cls K C ∧ NoAttr K C f ∧ fs.length < 1000 ∧
  D.nx σ (upd H2 a (.ins C dx (putF f y fs)))
section
variable {X : Cx} {o e value : Expr} {f : Str} {pos pos' tpos : Pos} {ta tv : TE}
theorem pe_fld (he : PE X e ta) (hb : attributeBase e f X.env (eval e X.env) = eval e X.env) : PE X (.Attribute e f pos) (tFld X.K ta f) := by
  intro pins s σ H Q I h
  refine attr_of hb (thn (he pins s σ H _ I h) fun u s1 ⟨x, H1, I1, rx, a, C, dx, fs, v, ex, ea, c, n, l, q⟩ => ?_)
  subst ex
  obtain rfl : u = Value.ref a := rx
  exact getattr_ok I1 ea c n l fun u' s2 I2 ru => ⟨v, H1, I2, ru, q⟩
theorem ps_fld (ha : PE X o ta) (hv : PE X value tv) (hs : swapsWith value (some (.Attribute o f pos')) pos.line X.env = pure false) : PS X (.Assign [.Attribute o f pos'] value pos) (sFld X.K ta tv f) := by
  intro pins s σ H D I h
  refine plainObj_wpAny_Assign_Attribute (thn (hv pins s σ H _ I h) fun u s1 ⟨y, H1, I1, ry, q⟩ => thn (ha pins s1 σ H1 _ I1 q) fun ov s2 ⟨x, H2, I2, rx, a, C, dx, fs, ex, ea, c, n, l, q2⟩ => ?_) hs
  subst ex
  obtain rfl : ov = Value.ref a := rx
  exact setattr_ok I2 ea c n l ry fun s3 I3 => ⟨σ, _, I3, q2⟩
end
section
variable {X : Cx} {pins : List (Addr × Obj)} {σ : St} {H : Hp} {s : Shared} {A : Around} {E : Value → Shared → Prop} {Q : Value → Shared → Prop} {c : Value} {b : Bool}
/-- the type of a value, as the fragment's deciders take it; for an instance its class -/
inductive TyOf (K : PySem.W.Frag) (H : Hp) : V → Value → Prop where
  | non : TyOf K H .non (.type "NoneType")
  | bl (x : Bool) : TyOf K H (.bl x) (.type "bool")
  | int (i : Int) : TyOf K H (.int i) (.type "int")
  | str (x : Str) : TyOf K H (.str x) (.type "str")
  | flt (x : UInt64) : TyOf K H (.flt x) (.type "float")
  | lst {a : Addr} {xs : List V} (e : H a = some (.lst xs)) : TyOf K H (.ref a) (.type "list")
  | frz {a : Addr} {o : Obj} {xs : List V} (e : H a = some (.frz o (.lst xs))) : TyOf K H (.ref a) (.type "list")
  | tup {a : Addr} {xs : List V} (e : H a = some (.tup xs)) : TyOf K H (.ref a) (.type "tuple")
  | dK {a : Addr} {kvs : List (Key × V)} (e : H a = some (.dK kvs)) : TyOf K H (.ref a) (.type "dict")
  | dT {a : Addr} {kvs : List (List Key × V)} (e : H a = some (.dT kvs)) : TyOf K H (.ref a) (.type "dict")
  | ins {a C dx : Addr} {fs : List (Str × V)} (e : H a = some (.ins C dx fs)) (cl : Cls K C) (ha : PySem.W.findIn K (.ref C) "__class__" = some (some (.builtin "object.__class__")))
      (hn : PySem.W.specialIn K (.builtin "object.__class__") "__get__" = some (some (.builtin "getset_descriptor.__get__"))) (htk : PySem.W.takesIn K (.builtin "object.__class__") = some true)
      (hm : PySem.W.mroIn K C (.type "object") = some true) : TyOf K H (.ref a) (.ref C)
/-- isinstance(x, c) for one class c, a built-in or an own one: kitOne's answer -/
theorem isinst_ok {x : V} {u t : Value} (I : Inv X pins σ H s) (rx : RelV x u) (ty : TyOf X.K H x t) (e : PySem.W.kitOne X.K t c = some b) (h : ∀ tk, Q (.bool b) { s with toks := tk }) :
    wpAny (model X.prog X.w) A (call (.builtin "isinstance") [u, c]) Q E s := by
  cases ty with
  | non => cases (show u = Value.none from rx); exact PySem.W.kia_one PySem.W.kitx_none I.kIn True.intro e (fun z => nomatch z) h
  | bl y => cases (show u = Value.bool y from rx); exact PySem.W.kia_one PySem.W.kitx_bool I.kIn True.intro e (fun z => nomatch z) h
  | int i => obtain ⟨t, q⟩ := (show ∃ t, u = Value.int i t from rx); cases q; exact PySem.W.kia_one PySem.W.kitx_int I.kIn True.intro e (fun z => nomatch z) h
  | str y => obtain ⟨t, q⟩ := (show ∃ t, u = Value.str y t from rx); cases q; exact PySem.W.kia_one PySem.W.kitx_str I.kIn True.intro e (fun z => nomatch z) h
  | flt y => obtain ⟨t, q⟩ := (show ∃ t, u = Value.float y t from rx); cases q; exact PySem.W.kia_one PySem.W.kitx_float I.kIn True.intro e (fun z => nomatch z) h
  | @lst a xs ea =>
    cases (show u = Value.ref a from rx)
    obtain ⟨_, _, n, _, h1⟩ := (show ObjOk X.prog X.w H s.heap a (.lst xs) from I.hok a _ ea)
    exact PySem.W.kia_one PySem.W.kitx_list I.kIn ⟨_, h1, rfl⟩ e (fun z => nomatch z) h
  | @frz a ob xs ea =>
    cases (show u = Value.ref a from rx)
    obtain ⟨_, _, _, n, _, h1⟩ := (show ObjOk X.prog X.w H s.heap a (.frz ob (.lst xs)) from I.hok a _ ea)
    exact PySem.W.kia_one PySem.W.kitx_list I.kIn ⟨_, h1, rfl⟩ e (fun z => nomatch z) h
  | @tup a xs ea =>
    cases (show u = Value.ref a from rx)
    obtain ⟨_, _, _, p⟩ := (show ObjOk X.prog X.w H s.heap a (.tup xs) from I.hok a _ ea)
    obtain ⟨o, h1, h2, _⟩ := p
    exact PySem.W.kia_one PySem.W.kitx_tuple I.kIn ⟨o, h1, h2⟩ e (fun z => nomatch z) h
  | @dK a kvs ea =>
    cases (show u = Value.ref a from rx)
    obtain ⟨_, _, vs, _, p⟩ := (show ObjOk X.prog X.w H s.heap a (.dK kvs) from I.hok a _ ea)
    obtain ⟨o, es, ep, h1, h2, _⟩ := p
    exact PySem.W.kia_one PySem.W.kitx_dict I.kIn ⟨o, h1, h2.1⟩ e (fun z => nomatch z) h
  | @dT a kvs ea =>
    cases (show u = Value.ref a from rx)
    obtain ⟨_, _, xs, _, o, es, ep, h1, h2, _⟩ := (show ObjOk X.prog X.w H s.heap a (.dT kvs) from I.hok a _ ea)
    exact PySem.W.kia_one PySem.W.kitx_dict I.kIn ⟨o, h1, h2.1⟩ e (fun z => nomatch z) h
  | @ins a C dx fs ea cl ha hn htk hm =>
    cases (show u = Value.ref a from rx)
    obtain ⟨mA, O, _⟩ := ins_get I.hok ea
    obtain ⟨od, J, _⟩ := O.look
    exact PySem.W.kia_one (PySem.W.kitx_own (cl.get _) cl.hd ha hn htk hm) I.kIn J e (fun z => nomatch z) h
end
end L2
namespace L2
open PySem PySem.Spec PyProof.Rows
structure Room (k : Nat) (A : Around) : Prop where
  hd : A.handled = none
  dp : A.depth + 3 * k + 5 < recursionLimit
  un : A.units + 16 * k + 200 < cLine
theorem Room.mono {j k : Nat} {A : Around} (r : Room k A) (h : j ≤ k) : Room j A := ⟨r.hd, by have := r.dp; omega, by have := r.un; omega⟩
theorem Room.deeper {k : Nat} {A : Around} (r : Room (k + 1) A) (env : Env) : Room k (A.deeper env) :=
  ⟨r.hd, by have := r.dp; show A.depth + 1 + 3 * k + 5 < _; omega, by have := r.un; show A.units + 3 + 16 * k + 200 < _; omega⟩
theorem make_depth {A : Around} {C : Addr} {us : List Value} {kw : List (Str × Value)} : (A.under (.builtin "type.__call__" ⟨.ref C :: us, kw⟩)).depth = A.depth + 1 := by
  first | rfl | simp [Around.under, Code.weight, Code.isCreation, Code.isGuard, Code.isCaller, Code.frames, Code.isFrame, guardIds]
theorem make_units {A : Around} {C : Addr} {us : List Value} {kw : List (Str × Value)} : (A.under (.builtin "type.__call__" ⟨.ref C :: us, kw⟩)).units = A.units + 1 := by
  first | rfl | simp [Around.under, Code.cUnits, Code.frames, Code.isFrame]
theorem Room.make {k : Nat} {A : Around} (r : Room (k + 1) A) (C : Addr) (us : List Value) (kw : List (Str × Value)) : Room k (A.under (.builtin "type.__call__" ⟨.ref C :: us, kw⟩)) :=
  ⟨r.hd, by have := r.dp; rw [make_depth]; omega, by have := r.un; rw [make_units]; omega⟩
theorem Room.depth {k : Nat} {A : Around} (r : Room k A) : A.depth < recursionLimit := by have := r.dp; omega
theorem Room.units {k : Nat} {A : Around} (r : Room k A) : A.units + 64 < cLine := by have := r.un; omega
def tNil : TA := fun _ H Q => Q [] H
def tCons (ta : TE) (tr : TA) : TA := fun σ H Q => ta σ H fun x H1 => tr σ H1 fun xs H2 => Q (x :: xs) H2
section
variable {X : Cx} {e : Expr} {es : List Expr} {te : TE} {t : TA} {pos : Pos}
theorem pa_nil : PA X [] tNil := fun _ _ _ _ H Q I h => Calls.spliced_nil ⟨[], H, I, .nil, h⟩
theorem pa_cons (ha : PE X e te) (hr : PA X es t) (hs : starEach (e :: es) X.env = (false, eval e X.env) :: starEach es X.env := by rfl) : PA X (e :: es) (tCons te t) := by
  intro pos pins s σ H Q I h
  rw [hs]
  show wpAny _ _ (spliced ((false, eval e X.env) :: backTo pos (starEach es X.env))) _ _ s
  refine Calls.spliced_cons (thn (ha pins s σ H _ I h) fun u s1 ⟨x, H1, I1, r1, q1⟩ => ?_)
  exact thn (hr pos pins s1 σ H1 _ I1 q1) fun us s2 ⟨xs, H2, I2, r2, q2⟩ => ⟨x :: xs, H2, I2, .cons r1 r2, q2⟩
/-- a tuple, a list of written items -/
def tTup (t : TA) : TE := fun σ H Q => t σ H fun xs H1 => xs.length ≤ sizeLine ∧ ∀ p, H1 p = none → Q (.ref p) (upd H1 p (.tup xs))
def tLst (t : TA) : TE := fun σ H Q => t σ H fun xs H1 => xs.length ≤ sizeLine ∧ ∀ p, H1 p = none → Q (.ref p) (upd H1 p (.lst xs))
theorem pe_tup {x1} (h : PA X es t) : PE X (.Tuple es x1 pos) (tTup t) := by
  intro pins s σ H Q I hq
  refine wpAny_Tuple_spliced (thn (h pos pins s σ H _ I hq) fun us s1 ⟨xs, H1, I1, r, z, q⟩ => ⟨by rw [← r.length]; exact z, ?_⟩)
  have hf : H1 s1.heap.objs.size = none := I1.hok.fresh (Nat.le_refl _)
  refine ⟨.ref s1.heap.objs.size, upd H1 s1.heap.objs.size (.tup xs), I1.laid (t' := s1.toks) (fun b u e => Heap.get?_push_of_some _ e) (Nat.le_refl _) ?_, rfl, q _ hf⟩
  exact ⟨z, us, r, ⟨_, Heap.get?_push_size _ rfl, rfl, _, rfl⟩⟩
theorem pe_lst (h : PA X es t) : PE X (.List es pos) (tLst t) := by
  intro pins s σ H Q I hq
  refine wpAny_List_spliced (thn (h pos pins s σ H _ I hq) fun us s1 ⟨xs, H1, I1, r, z, q⟩ => ⟨by rw [← r.length]; exact z, ?_⟩)
  have hf : H1 s1.heap.objs.size = none := I1.hok.fresh (Nat.le_refl _)
  refine ⟨.ref s1.heap.objs.size, upd H1 s1.heap.objs.size (.lst xs), I1.laid (t' := s1.toks) (fun b u e => Heap.get?_push_of_some _ e) (Nat.le_refl _) ?_, rfl, q _ hf⟩
  exact ⟨z, us, 0, r, Heap.get?_push_size _ rfl⟩
end
/-- a def's promise: the bound arguments in the parameters' order, the heap, the wanted end, the wanted exception -/
abbrev Sp := List V → Hp → VK → XK → Prop
/-- how an exception lies behind a call (file 08 gives it): the callers' frames, abstract heap and state ahead of the call, the wish, the exception, the state -/
abbrev CXT := List Env → Hp → Shared → XK → Value → Shared → Prop
/-- the state at a call -/
structure Env0 (P : Program) (w : World) (K : PySem.W.Frag) (mg : Str → Option Value) (base : Heap) (A : Around) (outer : List Env) (s : Shared) (H : Hp) : Prop where
  frames : A.frames = some outer
  mod : Mod K mg base
  bs : ∀ b o, base.get? b = some o → s.heap.get? b = some o ∧ H b = none
  bsz : base.objs.size ≤ s.heap.objs.size
  funs : s.heap.FunFrames base outer
  frf : ∀ b ∈ frs outer, H b = none
  hok : HOk P w H s.heap
  bare : AllBare s.gens
/-- a call's end -/
def CE (outer : List Env) (P : Program) (w : World) (H : Hp) (s : Shared) (Q : VK) (u : Value) (s' : Shared) : Prop :=
  ∃ v H', s'.os = s.os ∧ AllBare s'.gens ∧ Un (frs outer) [] H H' s.heap s'.heap ∧ HOk P w H' s'.heap ∧ RelV v u ∧ Q v H'
def CR (CX : CXT) (outer : List Env) (P : Program) (w : World) (H : Hp) (s : Shared) (Q : VK) (E : XK) (r : Result) (s' : Shared) : Prop :=
  match r with
  | .ok (.ret u) => CE outer P w H s Q u s'
  | .ok _ => False
  | .error e => CX outer H s E e s'
structure FnOk (P : Program) (w : World) (K : PySem.W.Frag) (mg : Str → Option Value) (base : Heap) (CX : CXT) (k : Nat) (f : Addr) (fd : FuncData) (ps : List Str) (sp : Sp) : Prop where
  len : ∀ vs H Q E, sp vs H Q E → vs.length = ps.length
  run : ∀ (A : Around) (outer : List Env) (s : Shared) (H : Hp) (args : Args) (us : List Value) (vs : List V) (Q : VK) (E : XK), Room k A → Env0 P w K mg base A outer s H → BindsTo s fd args (ps.zip us) → Vals vs us → sp vs H Q E →
    codeAny (model P w) A (.call (.ref f) args) (CR CX outer P w H s Q E) s
theorem Env0.make {P : Program} {w : World} {K : PySem.W.Frag} {mg : Str → Option Value} {base : Heap} {A : Around} {outer : List Env} {s : Shared} {H : Hp} (e : Env0 P w K mg base A outer s H) (C : Addr) (us : List Value) (kw : List (Str × Value)) :
    Env0 P w K mg base (A.under (.builtin "type.__call__" ⟨.ref C :: us, kw⟩)) outer s H := ⟨by first | exact e.frames | (simpa [Around.under, Code.envs, Code.isFrame, pushEnvs] using e.frames), e.mod, e.bs, e.bsz, e.funs, e.frf, e.hok, e.bare⟩
section
variable {X : Cx} {pins : List (Addr × Obj)} {σ : St} {H : Hp} {s s' : Shared}
/-- from a body: what a callee wants -/
theorem Inv.env0 (I : Inv X pins σ H s) : Env0 X.prog X.w X.K X.mg X.base X.A X.stack s H :=
  ⟨I.ok.frames, I.ok.mod, I.bs, Nat.le_trans I.ok.bsz I.sz, I.stack, I.stkFree, I.hok, I.bare⟩
/-- behind a call -/
theorem Inv.after {Q : VK} {u : Value} (I : Inv X pins σ H s) (h : CE X.stack X.prog X.w H s Q u s') : EP X pins σ Q u s' := by
  obtain ⟨v, H', os, bare, un, hok, r, q⟩ := h
  obtain ⟨hh, g, d, t, os'⟩ := s'
  obtain rfl : os' = s.os := os
  exact ⟨v, H', I.call (h' := hh) (g' := g) (d' := d) (t' := t) (ch := []) un hok bare (fun b z => absurd z (by simp)), r, q⟩
end
/-- f(..): the written arguments, then the defaults dvs; E: what is wanted of an exception -/
def tCall (sp : Sp) (dvs : List V) (E : XK) (t : TA) : TE := fun σ H Q => t σ H fun vs H1 => sp (vs ++ dvs) H1 Q E
/-- o.m(..) of an instance of the class at C -/
def tMeth (C : Addr) (m : Str) (sp : Sp) (dvs : List V) (E : XK) (ta : TE) (t : TA) : TE := fun σ H Q => ta σ H fun x H1 => ∃ a dx fs, x = .ref a ∧ H1 a = some (.ins C dx fs) ∧ fs.lookup m = none ∧
  t σ H1 fun vs H2 => sp (x :: (vs ++ dvs)) H2 Q E
/-- C(..): a new instance and its dict, then __init__ -/
def tMake (C : Addr) (sp : Sp) (dvs : List V) (E : XK) (t : TA) : TE := fun σ H Q => t σ H fun vs H1 => ∀ x dx, H1 x = none → H1 dx = none → dx ≠ x →
  sp (.ref x :: (vs ++ dvs)) (upd (upd H1 dx (.own x)) x (.ins C dx [])) (fun v H2 => v = .non ∧ Q (.ref x) H2) E
/-- how the parameters are bound: us the positional arguments, kw the keywords' values by name, ds the defaults that fill up -/
def Binds (K : PySem.W.Frag) (fd : FuncData) (ps : List Str) (ds : List Value) : Prop :=
  ∀ (s : Shared) (us : List Value), K.In s.heap → (us ++ ds).length = ps.length → BindsTo s fd ⟨us, []⟩ (ps.zip (us ++ ds))
/-- every parameter is given -/
theorem Binds.all {K : PySem.W.Frag} {fd : FuncData} {ps : List Str} (h : ∀ us : List Value, us.length = ps.length → bindArgs fd ⟨us, []⟩ = pure (ps.zip us)) : Binds K fd ps [] := fun s us _ hl => by
  rw [List.append_nil] at hl ⊢
  exact .of_eq (h us hl)
/-- an exception of a callee reaches what this body wants of exceptions -/
def Passes (CX : CXT) (X : Cx) (E : XK) : Prop := ∀ (pins : List (Addr × Obj)) (σ : St) (H : Hp) (s : Shared) (e : Value) (s' : Shared), Inv X pins σ H s → CX X.stack H s E e s' → X.xe e s'
section
variable {X : Cx} {CX : CXT} {k : Nat} {f C : Addr} {fd : FuncData} {ps : List Str} {sp : Sp} {dvs : List V} {ds : List Value} {E : XK} {x m : Str} {p pos apos : Pos} {e o : Expr} {es : List Expr} {ta : TE} {t : TA}
/-- the callee runs -/
theorem run_fn {pins : List (Addr × Obj)} {σ : St} {H : Hp} {s : Shared} {Q : VK} {us : List Value} {vs : List V} (F : FnOk X.prog X.w X.K X.mg X.base CX k f fd ps sp) (hr : Room k X.A) (hb : Binds X.K fd ps ds) (hd : Vals dvs ds) (hx : Passes CX X E)
    (I : Inv X pins σ H s) (r : Vals vs us) (h : sp (vs ++ dvs) H Q E) : wpAny (model X.prog X.w) X.A (call (.ref f) us) (EP X pins σ Q) X.xe s := by
  have r2 : Vals (vs ++ dvs) (us ++ ds) := r.append hd
  have hl : (us ++ ds).length = ps.length := by rw [← r2.length]; exact F.len _ _ _ _ h
  refine wpAny_call (codeAny_mono (F.run X.A X.stack s H ⟨us, []⟩ (us ++ ds) (vs ++ dvs) Q E hr I.env0 (hb s us I.kIn hl) r2 h) fun r s' hq => ?_)
  cases r with
  | error e => exact hx pins σ H s e s' I hq
  | ok fl =>
    cases fl with
    | ret u => exact I.after hq
    | next => exact False.elim hq
    | brk => exact False.elim hq
    | cont => exact False.elim hq
theorem pe_call (F : FnOk X.prog X.w X.K X.mg X.base CX k f fd ps sp) (hr : Room k X.A) (hg : Gl X x) (hm : X.mg x = some (.ref f)) (hk : PySem.W.keepIn X.K (.ref f) = true) (hb : Binds X.K fd ps ds) (hd : Vals dvs ds) (hx : Passes CX X E)
    (ha : PA X (e :: es) t) (hdb : (x == ("__debug__" : Str)) = false := by decide) (he : starEach (e :: es) X.env = (false, eval e X.env) :: starEach es X.env := by rfl) (hpl : (backTo pos (starEach es X.env)).any (·.1) = false := by rfl) :
    PE X (.Call (.Name x p) (e :: es) [] pos) (tCall sp dvs E t) := by
  intro pins s σ H Q I h
  refine wpAny_Call_Name_kw (ld_glob I hg hm ?_ hdb)
  refine PySem.W.callWith_K (h₀ := X.base) I.ok.mod.kin hk (thn (ha pos pins s σ H _ I h) fun us s1 ⟨vs, H1, I1, r, q⟩ => ⟨I1.kIn, ?_⟩) he hpl
  exact run_fn F hr hb hd hx I1 r q
/-- o.m() -/
theorem pe_meth0 {pl : Sem Bool} (he : PE X o ta) (c : Cls X.K C) (hm : Meth X.K C m f) (F : FnOk X.prog X.w X.K X.mg X.base CX k f fd ps sp) (hr : Room k X.A) (hb : Binds X.K fd ps ds) (hd : Vals dvs ds) (hx : Passes CX X E)
    (ht : eval (.Call (.Attribute o m apos) [] [] pos) X.env = (do
      let ov ← eval o X.env
      standAt apos.atName
      let (f, first) ← holding [ov] (getMethod ov m pl)
      callWith pos f first (backTo pos (starEach [] X.env)) (backToKw pos (keywordEach [] X.env))) := by rfl) :
    PE X (.Call (.Attribute o m apos) [] [] pos) (tMeth C m sp dvs E ta tNil) := by
  intro pins s σ H Q I h
  refine PySem.W.methodCall_KW (pl := pl) (thn (he pins s σ H _ I h) fun u s1 ⟨x, H1, I1, rx, a, dx, fs, ex, ea, l, q⟩ => ?_) ht
  subst ex
  obtain rfl : u = Value.ref a := rx
  refine getmeth_ok I1 ea c hm l ?_
  exact PySem.W.callWith_K0 (first := [.ref a]) I1.kIn hm.kp (run_fn (us := [.ref a]) (vs := [.ref a]) F hr hb hd hx I1 (.cons rfl .nil) q)
/-- what a class must have to be made -/
structure Mk (K : PySem.W.Frag) (C f : Addr) : Prop where
  makes : PySem.W.makesIn K C = true
  init : PySem.W.findIn K (.ref C) "__init__" = some (some (.ref f))
  fn : PySem.W.isFn K (.ref f) = true
  kp : PySem.W.keepIn K (.ref C) = true
theorem run_make {pins : List (Addr × Obj)} {σ : St} {H : Hp} {s : Shared} {Q : VK} {us : List Value} {vs : List V} (M : Mk X.K C f) (F : FnOk X.prog X.w X.K X.mg X.base CX k f fd ps sp) (hr : Room (k + 1) X.A) (hb : Binds X.K fd ps ds) (hd : Vals dvs ds)
    (hx : Passes CX X E) (I : Inv X pins σ H s) (r : Vals vs us)
    (h : ∀ x dx, H x = none → H dx = none → dx ≠ x → sp (.ref x :: (vs ++ dvs)) (upd (upd H dx (.own x)) x (.ins C dx [])) (fun v H2 => v = .non ∧ Q (.ref x) H2) E) :
    wpAny (model X.prog X.w) X.A (call (.ref C) us) (EP X pins σ Q) X.xe s := by
  have hq := h (s.heap.objs.size + 1) s.heap.objs.size (I.hok.fresh (Nat.le_succ _)) (I.hok.fresh (Nat.le_refl _)) (Nat.ne_of_lt (Nat.lt_succ_self _))
  have I2 := Inv.made (C := C) I
  have r2 : Vals (V.ref (s.heap.objs.size + 1) :: (vs ++ dvs)) (Value.ref (s.heap.objs.size + 1) :: (us ++ ds)) := .cons rfl (r.append hd)
  have hl : (Value.ref (s.heap.objs.size + 1) :: us ++ ds).length = ps.length := by
    have e := r2.length
    rw [F.len _ _ _ _ hq] at e
    exact e.symm
  refine wpAny_call (make_map (f := f) I.kIn M.makes M.init (beq_iff_eq.mp M.fn) (codeAny_mono (F.run _ X.stack _ _ ⟨Value.ref (s.heap.objs.size + 1) :: us, []⟩ (Value.ref (s.heap.objs.size + 1) :: (us ++ ds)) _ _ E (hr.make C us [])
    (I2.env0.make C us []) (hb _ (Value.ref (s.heap.objs.size + 1) :: us) I2.kIn hl) r2 hq) fun r s' hq' => ?_))
  cases r with
  | error e => exact hx pins σ _ _ e s' I2 hq'
  | ok fl =>
    cases fl with
    | ret u =>
      obtain ⟨v, H', I3, rv, ev, q3⟩ := I2.after hq'
      subst ev
      exact ⟨rv, ⟨V.ref (s.heap.objs.size + 1), H', I3, rfl, q3⟩⟩
    | next => exact False.elim hq'
    | brk => exact False.elim hq'
    | cont => exact False.elim hq'
theorem pe_make (M : Mk X.K C f) (F : FnOk X.prog X.w X.K X.mg X.base CX k f fd ps sp) (hr : Room (k + 1) X.A) (hg : Gl X x) (hm : X.mg x = some (.ref C)) (hb : Binds X.K fd ps ds) (hd : Vals dvs ds) (hx : Passes CX X E)
    (ha : PA X (e :: es) t) (hdb : (x == ("__debug__" : Str)) = false := by decide) (he : starEach (e :: es) X.env = (false, eval e X.env) :: starEach es X.env := by rfl) (hpl : (backTo pos (starEach es X.env)).any (·.1) = false := by rfl) :
    PE X (.Call (.Name x p) (e :: es) [] pos) (tMake C sp dvs E t) := by
  intro pins s σ H Q I h
  refine wpAny_Call_Name_kw (ld_glob I hg hm ?_ hdb)
  refine PySem.W.callWith_K (h₀ := X.base) I.ok.mod.kin M.kp (thn (ha pos pins s σ H _ I h) fun us s1 ⟨vs, H1, I1, r, q⟩ => ⟨I1.kIn, ?_⟩) he hpl
  exact run_make M F hr hb hd hx I1 r q
end
/-- the values of the keywords, from the left -/
def PK (X : Cx) (kws : List Keyword) (t : TA) : Prop :=
  ∀ (pos : Pos) (pins : List (Addr × Obj)) (s : Shared) (σ : St) (H : Hp) (Q : List V → Hp → Prop), Inv X pins σ H s → t σ H Q → wpAny (model X.prog X.w) X.A (evalAll ((backToKw pos (keywordEach kws X.env)).map (·.2))) (AP X pins σ Q) X.xe s
section
variable {X : Cx} {CX : CXT} {k : Nat} {f C : Addr} {fd : FuncData} {ps ks : List Str} {sp : Sp} {E : XK} {x m : Str} {p pos apos kpos : Pos} {e o : Expr} {es : List Expr} {kws : List Keyword} {te ta : TE} {t tk : TA} {nm : Option Str}
theorem pk_nil : PK X [] tNil := fun _ _ _ _ H Q I h => wpAny_evalAll_nil ⟨[], H, I, .nil, h⟩
theorem pk_cons (ha : PE X e te) (hr : PK X kws t) : PK X (⟨nm, e, kpos⟩ :: kws) (tCons te t) := by
  intro pos pins s σ H Q I h
  show wpAny _ _ (evalAll ((do let v ← eval e X.env; standAt pos; pure v) :: (backToKw pos (keywordEach kws X.env)).map (·.2))) _ _ s
  refine wpAny_evalAll_cons (wpAny_bind (thn (ha pins s σ H _ I h) fun u s1 ⟨x, H1, I1, r1, q1⟩ => wpAny_bind (wpAny_standAt (wpAny_pure ?_))))
  exact thn (hr pos pins s1 σ H1 _ I1 q1) fun us s2 ⟨xs, H2, I2, r2, q2⟩ => ⟨x :: xs, H2, I2, .cons r1 r2, q2⟩
variable {g : List Value → List Value → List Value} {gV : List V → List V → List V}
end
/-- names: the parameters first -/
structure FnScope (N P : List Str) (sc : Scope) : Prop where
  kind : sc.kind = .function
  co : sc.isCoroutine = false
  gen : sc.isGenerator = false
  nd : N.Nodup
  pre : N.take P.length = P
  par : ∀ x ∈ P, sc.names.lookup x = some .local ∨ sc.names.lookup x = some .cell
  nofree : ∀ y ∈ sc.names, y.2 ≠ .free
theorem bindL_out {kindOf : Str → Option NameKind} {x : Str} : ∀ {binds : List (Str × Value)} {m : Str → Option Value}, (∀ v, (x, v) ∉ binds) → bindL kindOf binds m x = m x
  | [], _, _ => rfl
  | (n, v) :: r, m, h => by
    unfold bindL
    rw [bindL_out fun w hw => h w (List.mem_cons_of_mem _ hw)]
    split
    · have : x ≠ n := by rintro rfl; exact h v List.mem_cons_self
      simp [this]
    · rfl
theorem bindC_out {kindOf : Str → Option NameKind} {x : Str} : ∀ {binds : List (Str × Value)} {m : Str → Option Value}, (∀ v, (x, v) ∉ binds) → bindC kindOf binds m x = m x
  | [], _, _ => rfl
  | (n, v) :: r, m, h => by
    unfold bindC
    rw [bindC_out fun w hw => h w (List.mem_cons_of_mem _ hw)]
    split
    · rfl
    · have : x ≠ n := by rintro rfl; exact h v List.mem_cons_self
      simp [this]
theorem bindL_get {kindOf : Str → Option NameKind} {x : Str} {v : Value} : ∀ {P : List Str} {vs : List Value} {i : Nat} {m : Str → Option Value}, P.Nodup → P[i]? = some x → vs[i]? = some v → kindOf x = some .local →
    bindL kindOf (P.zip vs) m x = some v
  | [], _, _, _, _, h, _, _ => by simp at h
  | _ :: _, [], _, _, _, _, h, _ => by simp at h
  | p :: P, w :: vs, 0, m, nd, h1, h2, hk => by
    simp at h1 h2; subst h1; subst h2
    show bindL kindOf ((p, w) :: P.zip vs) m p = _
    unfold bindL
    rw [bindL_out fun v hv => (List.nodup_cons.mp nd).1 (List.of_mem_zip hv).1, if_pos hk]
    simp
  | p :: P, w :: vs, i + 1, m, nd, h1, h2, hk => by
    show bindL kindOf ((p, w) :: P.zip vs) m x = _
    unfold bindL
    exact bindL_get (i := i) (List.nodup_cons.mp nd).2 (by simpa using h1) (by simpa using h2) hk
theorem bindC_get {kindOf : Str → Option NameKind} {x : Str} {v : Value} : ∀ {P : List Str} {vs : List Value} {i : Nat} {m : Str → Option Value}, P.Nodup → P[i]? = some x → vs[i]? = some v → kindOf x ≠ some .local →
    bindC kindOf (P.zip vs) m x = some v
  | [], _, _, _, _, h, _, _ => by simp at h
  | _ :: _, [], _, _, _, _, h, _ => by simp at h
  | p :: P, w :: vs, 0, m, nd, h1, h2, hk => by
    simp at h1 h2; subst h1; subst h2
    show bindC kindOf ((p, w) :: P.zip vs) m p = _
    unfold bindC
    rw [bindC_out fun v hv => (List.nodup_cons.mp nd).1 (List.of_mem_zip hv).1, if_neg hk]
    simp
  | p :: P, w :: vs, i + 1, m, nd, h1, h2, hk => by
    show bindC kindOf ((p, w) :: P.zip vs) m x = _
    unfold bindC
    exact bindC_get (i := i) (List.nodup_cons.mp nd).2 (by simpa using h1) (by simpa using h2) hk
/-- the names' values at the entry -/
def start (N : List Str) (vs : List V) : St := vs.map some ++ List.replicate (N.length - vs.length) none
/-- the context of a def's body, at its entry; an exception leaves the frame, then lies as CX says -/
def cxOf (CX : CXT) (P : Program) (w : World) (K : PySem.W.Frag) (mg : Str → Option Value) (base : Heap) (N : List Str) (qual : Str) (scope : Scope) (f : Addr) (cd : Value) (A : Around) (outer : List Env) (s : Shared) (H : Hp) (E : XK) : Cx where
  prog := P
  w := w
  K := K
  mg := mg
  base := base
  A := A.deeper (envOfC qual scope s.heap.objs.size f cd)
  N := N
  s₀ := s
  H₀ := H
  env := envOfC qual scope s.heap.objs.size f cd
  outer := outer
  stack := envOfC qual scope s.heap.objs.size f cd :: outer
  ex := []
  calm := true
  fn := fun _ => true
  pn := []
  xe := fun e s' => wpAny (model P w) (A.deeper (envOfC qual scope s.heap.objs.size f cd)) (leaving (envOfC qual scope s.heap.objs.size f cd) e) (fun _ s'' => CX outer H s E e s'') (fun e' s'' => CX outer H s E e' s'') s'
theorem cell_has {sc : Scope} {n : Nat} {x : Str} (h : sc.names.lookup x = some .cell) : ∃ c, (cellsFrom n sc.names []).lookup x = some c := by
  have q := PySem.W.cellsFrom_some sc.names n [] (.inl h)
  exact Option.isSome_iff_exists.mp q
theorem inv_start {CX : CXT} {P : Program} {w : World} {K : PySem.W.Frag} {mg : Str → Option Value} {base : Heap} {N ps : List Str} {qual : Str} {scope : Scope} {f : Addr} {cd : Value} {A : Around} {outer : List Env} {s s1 : Shared} {H : Hp} {E : XK} {us : List Value} {vs : List V}
    (S : FnScope N ps scope) (hd : A.handled = none) (e0 : Env0 P w K mg base A outer s H) (hl : vs.length = ps.length) (r : Vals vs us)
    (x : InCallC s s.heap.objs.size (bindL (envOfC qual scope s.heap.objs.size f cd).kindOf (ps.zip us) fun _ => none) (cellsFrom (s.heap.objs.size + 1) scope.names []) (bindC (envOfC qual scope s.heap.objs.size f cd).kindOf (ps.zip us) fun _ => none) s1) :
    Inv (cxOf CX P w K mg base N qual scope f cd A outer s H E) [] (start N vs) H s1 := by
  have hpl : ps.length ≤ N.length := by have := congrArg List.length S.pre; rw [List.length_take] at this; omega
  obtain ⟨h1, tk, rfl, hk⟩ := x.done
  have noA : ∀ b : Addr, b ∉ (cxOf CX P w K mg base N qual scope f cd A outer s H E).ex := fun b z => absurd (show b ∈ ([] : List Addr) from z) (by simp)
  refine ⟨⟨e0.mod, S.kind, rfl, rfl, Nat.le_refl _, fun y z c h1 h2 => ?_, fun y hy => ?_, fun y c _ h => ?_, fun _ => hd, Around.frames_deeper e0.frames, .inr ⟨rfl, rfl⟩, fun b z => absurd z (noA b), e0.bs, e0.bsz, fun b _ _ => noA b, fun b z => absurd z (noA b), e0.funs, e0.frf⟩,
    rfl, e0.bare, Un.kept hk, ⟨_, x.toInCall.ns, fun i y v h1 h2 h3 => ?_⟩, fun y c h => ⟨_, x.cell y c h⟩, e0.hok.fresh (Nat.le_refl _), fun y c h => ?_, fun p hp => absurd (show p ∈ ([] : List (Addr × Obj)) from hp) (by simp), e0.hok.kept hk, ?_⟩
  · exact name_of_addr x.apart (PySem.mem_of_lookup h1) (PySem.mem_of_lookup h2)
  · have hy : scope.names.lookup y = some .cell ∨ scope.names.lookup y = some .free := hy
    rcases hy with hy | hy
    · exact cell_has hy
    · exact absurd rfl (S.nofree _ (PySem.mem_of_lookup hy))
  · exact Nat.le_of_lt (x.above y c (PySem.mem_of_lookup h))
  · have hi : i < vs.length := by
      unfold start at h2
      by_cases hi : i < vs.length
      · exact hi
      · rw [List.getElem?_append_right (by simpa using hi)] at h2
        rw [List.getElem?_replicate] at h2
        split at h2 <;> cases h2
    have ha : vs[i]? = some v := by
      unfold start at h2
      rw [List.getElem?_append_left (by simpa using hi), List.getElem?_map] at h2
      cases e : vs[i]? with
      | none => rw [e] at h2; cases h2
      | some a => rw [e] at h2; cases h2; rfl
    obtain ⟨u, hu, rv⟩ := r.get ha
    have hp : ps[i]? = some y := by
      rw [← S.pre, List.getElem?_take_of_lt (by omega)]; exact h1
    have ndP : ps.Nodup := by rw [← S.pre]; exact S.nd.sublist (List.take_sublist _ _)
    refine ⟨u, rv, ?_⟩
    rcases S.par y (List.mem_of_getElem? hp) with k | k
    · exact .inl ⟨k, bindL_get ndP hp hu k⟩
    · obtain ⟨c, e⟩ := cell_has (n := s.heap.objs.size + 1) k
      refine .inr ⟨.inl k, c, e, ?_⟩
      have q := x.cell y c e
      rw [bindC_get ndP hp hu (by show scope.names.lookup y ≠ _; rw [k]; decide)] at q
      exact q
  · exact e0.hok.fresh (Nat.le_of_lt (x.above y c (PySem.mem_of_lookup h)))
  · unfold start
    show _ = N.length
    rw [List.length_append, List.length_map, List.length_replicate]
    omega
/-- THE RULE: a def (or a method) of the text, by its body. The body's reading t is chosen for each entry; it is run at the parameters' values -/
theorem fn_of {CX : CXT} {P : Program} {w : World} {K : PySem.W.Frag} {mg : Str → Option Value} {base : Heap} {k : Nat} {f : Addr} {name qual : Str} {params : Arguments} {body : List Stmt} {scope : Scope} {dV kV doc pm cdv ct oc : Value} {an od : Option Addr}
    {osl : Array (Option Value)} {N ps : List Str} {sp : Sp} (lk : K.lookup f = some ⟨oc, od, .func (PySem.W.fnOf name qual params body scope dV kV doc pm an cdv ct), osl⟩) (hcd : PySem.W.codeIn K cdv qual = true) (S : FnScope N ps scope)
    (len : ∀ vs H Q E, sp vs H Q E → vs.length = ps.length)
    (hbody : ∀ (A : Around) (outer : List Env) (s : Shared) (H : Hp) (vs : List V) (Q : VK) (E : XK), Room k (A.deeper (envOfC qual scope s.heap.objs.size f cdv)) → sp vs H Q E →
      ∃ t, PSs (cxOf CX P w K mg base N qual scope f cdv A outer s H E) body t ∧ t { nx := fun _ H' => Q .non H', rt := Q } (start N vs) H) :
    FnOk P w K mg base CX (k + 1) f (PySem.W.fnOf name qual params body scope dV kV doc pm an cdv ct) ps sp := by
  refine ⟨len, fun A outer s H args us vs Q E hr e0 hb r hsp => ?_⟩
  have hl := len _ _ _ _ hsp
  have KX : K.In s.heap := e0.mod.kin.keeps fun b o e => (e0.bs b o e).1
  have lim : s.heap.NoLimit := e0.mod.nolimit.keeps fun b o e => (e0.bs b o e).1
  have hkind : ∀ y ∈ ps.zip us, scope.names.lookup y.1 = some .local ∨ (scope.names.lookup y.1 = some .cell ∧ ((cellsFrom (s.heap.objs.size + 1) scope.names []).lookup y.1).isSome = true) := fun ⟨n, v⟩ hy => by
    rcases S.par n (List.of_mem_zip hy).1 with q | q
    · exact .inl q
    · exact .inr ⟨q, PySem.W.cellsFrom_some _ _ _ (.inl q)⟩
  refine codeAny_call_function hr.depth (KX _ _ lk) rfl S.co S.gen rfl (PySem.W.codeRec_of KX hcd) (hb _ _ _ _ ?_)
  refine wpAny_newFunctionEnv_cells S.kind hkind fun env he s1 x => ?_
  subst he
  refine ⟨lim.keeps x.toInCall.keep, codeAny_func ?_⟩
  obtain ⟨t, ht, hq⟩ := hbody A outer s H vs Q E (hr.deeper _) hsp
  have I : Inv (cxOf CX P w K mg base N qual scope f cdv A outer s H E) [] (start N vs) H s1 := inv_start S hr.hd e0 hl r x
  refine wpAny_mono (ht [] s1 (start N vs) H _ I hq) (fun fl s' hs => ?_) fun e s' hs => hs
  have fin : ∀ {σ' : St} {H' : Hp} {v : V} {u : Value}, Inv (cxOf CX P w K mg base N qual scope f cdv A outer s H E) [] σ' H' s' → RelV v u → Q v H' → CE outer P w H s Q u s' :=
    fun {σ' H' v u} J rv q => ⟨v, H', J.os, J.bare, J.base, J.hok, rv, q⟩
  cases fl with
  | ret u =>
    obtain ⟨v, σ', H', J, rv, q⟩ := hs
    exact fin J rv q
  | next =>
    obtain ⟨σ', H', J, q⟩ := hs
    exact fin (v := V.non) (u := Value.none) J rfl q
  | brk =>
    obtain ⟨_, _, _, q⟩ := hs
    exact False.elim q
  | cont =>
    obtain ⟨_, _, _, q⟩ := hs
    exact False.elim q
end L2
namespace L2
open PySem PySem.Spec PyProof.Rows
section
variable {X : Cx} {x : Str} {p pos : Pos} {e : Expr} {es : List Expr} {t : TA} {id T : String} {r : List V → Hp → VK → Prop}
def tCB (r : List V → Hp → VK → Prop) (t : TA) : TE := fun σ H Q => t σ H fun vs H1 => r vs H1 Q
/-- f(e, ..), f a built-in function -/
theorem pe_callB (hc : CallR X (.builtin id) r) (hg : Gl X x) (hm : X.mg x = none) (hv : bootBuiltins x = some (.builtin id)) (ha : PA X (e :: es) t) (hn : x ≠ "__name__" := by decide) (hdb : (x == ("__debug__" : Str)) = false := by decide)
    (he : starEach (e :: es) X.env = (false, eval e X.env) :: starEach es X.env := by rfl) (hpl : (backTo pos (starEach es X.env)).any (·.1) = false := by rfl) : PE X (.Call (.Name x p) (e :: es) [] pos) (tCB r t) := by
  intro pins s σ H Q I h
  refine wpAny_Call_Name_kw (ld_blt I hg hm hv ?_ hn hdb)
  exact PyProof.Rows.callWith_builtin1 (thn (ha pos pins s σ H _ I h) fun us s1 ⟨vs, H1, I1, r1, q1⟩ => hc pins s1 σ H1 vs us Q I1 r1 q1) he hpl
/-- T(e, ..), T a built-in type -/
theorem pe_callTy (hc : CallR X (.type T) r) (hg : Gl X x) (hm : X.mg x = none) (hv : bootBuiltins x = some (.type T)) (ha : PA X (e :: es) t) (hn : x ≠ "__name__" := by decide) (hdb : (x == ("__debug__" : Str)) = false := by decide)
    (he : starEach (e :: es) X.env = (false, eval e X.env) :: starEach es X.env := by rfl) (hpl : (backTo pos (starEach es X.env)).any (·.1) = false := by rfl) : PE X (.Call (.Name x p) (e :: es) [] pos) (tCB r t) := by
  intro pins s σ H Q I h
  refine wpAny_Call_Name_kw (ld_blt I hg hm hv ?_ hn hdb)
  exact PyProof.Rows.callWith_type1 (thn (ha pos pins s σ H _ I h) fun us s1 ⟨vs, H1, I1, r1, q1⟩ => hc pins s1 σ H1 vs us Q I1 r1 q1) he hpl
end
end L2
namespace HT
open PySem PyProof.Rows
section
open PySem.SeqAt
open PySem.AutoSeq1 (wpAny_loadPart')
open PySem.MeetsSeq PySem.MeetsSeq2 PySem.MeetsSeq3
end
section
variable {prog : Program} {w : World} {A : Around} {E : Value → Shared → Prop} {s : Shared}
/-- a slice's bound as a place among n (d where it is left out) -/
def sIx (n d : Nat) : Option Int → Nat
  | none => d
  | some v => if v < 0 then (v + (n : Int)).toNat else min v.toNat n
theorem sIx_none (n d : Nat) : sIx n d none = d := rfl
theorem sIx_nat (n d k : Nat) : sIx n d (some (k : Int)) = min k n := by
  show (if (k : Int) < 0 then ((k : Int) + (n : Int)).toNat else min (k : Int).toNat n) = min k n
  rw [if_neg (by omega), Int.toNat_natCast]
end
end HT
namespace L2
open PySem PySem.Spec PyProof.Rows
abbrev TO := St → Hp → (Option Int → Hp → Prop) → Prop
/-- a slice's part (left out, or an int) -/
def PO (X : Cx) (e : Option Expr) (t : TO) : Prop :=
  ∀ (pins : List (Addr × Obj)) (s : Shared) (σ : St) (H : Hp) (Q : Option Int → Hp → Prop), Inv X pins σ H s → t σ H Q →
    wpAny (model X.prog X.w) X.A (evalPart e X.env) (fun u s' => ∃ o H', Inv X pins σ H' s' ∧ IsPart u o ∧ Q o H') X.xe s
def tNoPart : TO := fun _ H Q => Q none H
def tPart (t : TE) : TO := fun σ H Q => t σ H fun x H1 => ∃ i, x = .int i ∧ Q (some i) H1
section
variable {X : Cx} {e : Expr} {te : TE} {lo hi : Option Expr} {tl th : TO} {pos p2 : Pos}
theorem po_none : PO X none tNoPart := by
  intro pins s σ H Q I h
  rw [evalPart_none]
  exact wpAny_pure ⟨none, H, I, .none, h⟩
theorem po_some (h : PE X e te) : PO X (some e) (tPart te) := by
  intro pins s σ H Q I hw
  rw [evalPart_some]
  refine thn (h pins s σ H _ I hw) fun u s1 ⟨x, H1, I1, r1, q1⟩ => ?_
  obtain ⟨i, rfl, q⟩ := q1
  obtain ⟨t, rfl⟩ := r1
  exact ⟨some i, H1, I1, .int i t, q⟩
/-- what a slice of a value is, by values: the slice object stands at sl -/
def SlR (X : Cx) (r : V → Option Int → Option Int → Hp → VK → Prop) : Prop :=
  ∀ (pins : List (Addr × Obj)) (s : Shared) (σ : St) (H : Hp) (x : V) (v vl vu : Value) (lo hi : Option Int) (sl : Addr) (Q : VK), Inv X pins σ H s → RelV x v → s.heap.IsSliceOf sl vl vu .none → IsPart vl lo → IsPart vu hi → r x lo hi H Q →
    ∃ T id, typeLookup (.type T) "__getitem__" = pure (some (.builtin id)) ∧ s.TypeIs v T ∧ wpAny (model X.prog X.w) X.A (getItem v (.ref sl)) (EP X pins σ Q) X.xe s
def tSl (r : V → Option Int → Option Int → Hp → VK → Prop) (te : TE) (tl th : TO) : TE := fun σ H Q => te σ H fun x H1 => tl σ H1 fun l H2 => th σ H2 fun u H3 => r x l u H3 Q
/-- a[lo:hi], any a -/
theorem pe_slice {r : V → Option Int → Option Int → Hp → VK → Prop} (hr : SlR X r) (he : PE X e te) (hl : PO X lo tl) (hu : PO X hi th) : PE X (.Subscript e (.Slice lo hi none p2) pos) (tSl r te tl th) := by
  intro pins s σ H Q I h
  refine Subscript_ (thn (he pins s σ H _ I h) fun v s1 ⟨x, H1, I1, r1, q1⟩ => ?_)
  refine wpAny_Slice (thn (hl pins s1 σ H1 _ I1 q1) fun vl s2 ⟨l, H2, I2, pl, q2⟩ => thn (hu pins s2 σ H2 _ I2 q2) fun vu s3 ⟨u, H3, I3, pu, q3⟩ => ?_)
  rw [evalPart_none]
  refine wpAny_pure ?_
  have I4 : Inv X pins σ H3 { s3 with heap := s3.heap.push { cls := .type "slice", data := .fields #[vl, vu, .none] } } := I3.kept (t' := s3.toks) fun b ob q => Heap.get?_push_of_some _ q
  obtain ⟨T, id, hT, ht, hg⟩ := hr pins { s3 with heap := s3.heap.push { cls := .type "slice", data := .fields #[vl, vu, .none] } } σ H3 x v vl vu l u s3.heap.objs.size Q I4 r1 (Heap.IsSliceOf.new ..) pl pu q3
  show wpAny (model X.prog X.w) X.A (subscriptTail e (.Slice lo hi none p2) v (.ref s3.heap.objs.size)) (EP X pins σ Q) X.xe { s3 with heap := s3.heap.push { cls := .type "slice", data := .fields #[vl, vu, .none] } }
  exact tail_any (ops := [.ref s3.heap.objs.size, v]) ht hT hg (by with_unfolding_all rfl)
/-- the items of xs[lo:hi] -/
def cutV (xs : List V) (lo hi : Option Int) : List V := (xs.drop (HT.sIx xs.length 0 lo)).take (HT.sIx xs.length xs.length hi - HT.sIx xs.length 0 lo)
theorem cutV_length (xs : List V) (lo hi : Option Int) : (cutV xs lo hi).length ≤ xs.length := by
  unfold cutV
  rw [List.length_take, List.length_drop]
  omega
end
end L2
namespace L2
open PySem PySem.Spec PyProof.Rows
/-- the place that an index of any sign means -/
def ixN (n : Nat) (i : Int) : Option Nat := if 0 ≤ i then (if i < n then some i.toNat else none) else if -(n : Int) ≤ i then some (i + n).toNat else none
def atI {α : Type} (xs : List α) (i : Int) : Option α := (ixN xs.length i).bind fun j => xs[j]?
theorem ixN_seq {n : Nat} {i : Int} {j : Nat} (h : ixN n i = some j) : seqIndex? i n = some j ∧ j < n ∧ -(n : Int) ≤ i ∧ i < n := by
  unfold ixN at h
  by_cases h0 : 0 ≤ i
  · rw [if_pos h0] at h
    by_cases h1 : i < n
    · rw [if_pos h1] at h
      have e : i.toNat = j := Option.some.inj h
      exact ⟨by rw [seqIndex_of h0 h1, e], by omega, by omega, h1⟩
    · rw [if_neg h1] at h; cases h
  · rw [if_neg h0] at h
    by_cases h1 : -(n : Int) ≤ i
    · rw [if_pos h1] at h
      have e : (i + n).toNat = j := Option.some.inj h
      exact ⟨by rw [seqIndex_neg (by omega) h1, e], by omega, h1, by omega⟩
    · rw [if_neg h1] at h; cases h
theorem atI_get {α : Type} {xs : List α} {i : Int} {v : α} (h : atI xs i = some v) : ∃ j, seqIndex? i xs.length = some j ∧ xs[j]? = some v ∧ j < xs.length ∧ -(xs.length : Int) ≤ i ∧ i < xs.length := by
  unfold atI at h
  cases e : ixN xs.length i with
  | none => rw [e] at h; cases h
  | some j =>
    rw [e] at h
    obtain ⟨h1, h2, h3, h4⟩ := ixN_seq e
    exact ⟨j, h1, h, h2, h3, h4⟩
theorem atI_nat {α : Type} {xs : List α} {j : Nat} {v : α} (h : xs[j]? = some v) : atI xs (j : Int) = some v := by
  have hj : j < xs.length := (List.getElem?_eq_some_iff.mp h).1
  have e : ixN xs.length (j : Int) = some j := by
    unfold ixN
    rw [if_pos (by omega), if_pos (by omega)]; simp
  unfold atI; rw [e]; exact h
/-- what stands as an index of a plain subscript -/
def PlainIx (b : Expr) : Prop := ∀ o i, subscripted b false o i = operate [o, i] (getItem o i)
/-- a subscript by values -/
def IxR (X : Cx) (r : R2) : Prop :=
  ∀ (value slice : Expr) (pins : List (Addr × Obj)) (s : Shared) (σ : St) (H : Hp) (x y : V) (v u : Value) (Q : VK), Inv X pins σ H s → RelV x v → RelV y u → r x y H Q →
    subscripted slice false v u = operate [v, u] (getItem v u) → wpAny (model X.prog X.w) X.A (subscriptTail value slice v u) (EP X pins σ Q) X.xe s
/-- a call of a builtin's method by values: the receiver, the arguments -/
def MtR (X : Cx) (id : String) (r : V → List V → Hp → VK → Prop) : Prop :=
  ∀ (pins : List (Addr × Obj)) (s : Shared) (σ : St) (H : Hp) (x : V) (xs : List V) (v : Value) (us : List Value) (Q : VK), Inv X pins σ H s → RelV x v → Vals xs us → r x xs H Q →
    wpAny (model X.prog X.w) X.A (call (.builtin id) (v :: us)) (EP X pins σ Q) X.xe s
section
variable {X : Cx} {a b : Expr} {ta tb : TE} {pos : Pos}
/-- a[b] -/
theorem pe_ix {r : R2} (hr : IxR X r) (ha : PE X a ta) (hb : PE X b tb) (hs : PlainIx b) : PE X (.Subscript a b pos) (tOp r ta tb) := by
  intro pins s σ H Q I h
  exact Subscript_ (binT ha hb I h fun v u s2 x y H2 I2 rx ry q => hr a b pins s2 σ H2 x y v u Q I2 rx ry q (hs _ _))
def rIxL (K : PySem.W.Frag) : R2 := fun x y H Q => ∃ p xs i v, x = .ref p ∧ y = .int i ∧ SqL K H p xs ∧ atI xs i = some v ∧ Q v H
def rIxT (K : PySem.W.Frag) : R2 := fun x y H Q => ∃ p xs i v, x = .ref p ∧ y = .int i ∧ SqT K H p xs ∧ atI xs i = some v ∧ Q v H
def rIxS : R2 := fun x y H Q => ∃ z i c, x = .str z ∧ y = .int i ∧ z.length ≤ sizeLine ∧ atI z.cps.toList i = some c ∧ Q (.str ⟨#[c]⟩) H
theorem ix_list : IxR X (rIxL X.K) := by
  intro value slice pins s σ H x y v u Q I rx ry h hs
  obtain ⟨p, xs, i, z, rfl, rfl, hq, he, q⟩ := h
  cases rx
  obtain ⟨t, rfl⟩ := ry
  obtain ⟨its, r, pl, hz⟩ := I.list hq
  obtain ⟨j, h1, h2, h3, h4, h5⟩ := atI_get he
  obtain ⟨w, ew, rw'⟩ := r.get h2
  have hl := r.length
  have hn := line63
  have fin : EP X pins σ Q w s := ⟨z, H, I, rw', q⟩
  by_cases h0 : 0 ≤ i
  · have hj : i.toNat = j := by
      rw [seqIndex_of h0 h5] at h1
      exact Option.some.inj h1
    exact item_listR pl.isList h0 (by omega) (by rw [hj]; simpa using ew) fin hs
  · have hj : (i + (its.toArray.size : Int)).toNat = j := by
      rw [seqIndex_neg (by omega) h4] at h1
      rw [List.size_toArray, ← hl]
      exact Option.some.inj h1
    exact subscriptTail_builtinR (x := w) pl.isList.typeIs slot_list_getitem.lookup
      (wpAny_getItem_list_neg (Q := fun r s' => r = w ∧ EP X pins σ Q r s') pl.isList (by omega) (by rw [List.size_toArray] <;> omega) (by omega) (by rw [hj]; simpa using ew) ⟨rfl, fin⟩) hs
theorem ix_tup : IxR X (rIxT X.K) := by
  intro value slice pins s σ H x y v u Q I rx ry h hs
  obtain ⟨p, xs, i, z, rfl, rfl, hq, he, q⟩ := h
  cases rx
  obtain ⟨t, rfl⟩ := ry
  obtain ⟨its, r, pl, hz⟩ := I.tuple hq
  obtain ⟨j, h1, h2, h3, h4, h5⟩ := atI_get he
  obtain ⟨w, ew, rw'⟩ := r.get h2
  have hl := r.length
  have hn := line63
  have fin : EP X pins σ Q w s := ⟨z, H, I, rw', q⟩
  exact subscriptTail_builtinR (x := w) pl.typeIs slot_tuple_getitem.lookup
    (getItem_tuple (j := j) (Q := fun r s' => r = w ∧ EP X pins σ Q r s') pl (by omega) (by omega) (by rw [List.size_toArray, ← hl]; exact h1) (by simpa using ew) ⟨rfl, fin⟩) hs
theorem ix_str : IxR X rIxS := by
  intro value slice pins s σ H x y v u Q I rx ry h hs
  obtain ⟨z, i, c, rfl, rfl, hz, he, q⟩ := h
  obtain ⟨t, rfl⟩ := rx
  obtain ⟨t', rfl⟩ := ry
  obtain ⟨j, h1, h2, h3, h4, h5⟩ := atI_get he
  have hl : z.cps.toList.length = z.length := by simp [Str.length]
  rw [hl] at h1 h4 h5
  have hn := line63
  exact tail_any (typeIs_str s z t) slot_str_getitem.lookup (getItem_str (c := c) (by
    have e1 : decide (i < -(2 ^ 63 : Int)) = false := decide_eq_false (by omega)
    have e2 : decide (i ≥ 2 ^ 63) = false := decide_eq_false (by omega)
    rw [e1, e2, Bool.or_false]) (by rw [h1]; simpa using h2) ⟨.str ⟨#[c]⟩, H, I.tok _, ⟨_, rfl⟩, q⟩) hs
theorem slice_bounds (lo hi : Option Int) (n : Nat) : (sliceBounds lo hi none n).1 = ((HT.sIx n 0 lo : Nat) : Int) ∧ (sliceBounds lo hi none n).2.1 = ((HT.sIx n n hi : Nat) : Int) ∧ (sliceBounds lo hi none n).2.2 = 1 := by
  refine ⟨?_, ?_, rfl⟩
  · cases lo with
    | none => simp [sliceBounds, HT.sIx]
    | some i =>
      simp only [sliceBounds, HT.sIx, Option.getD_none, show (1 : Int) > 0 by decide, if_true]
      by_cases h : i < 0
      · simp only [h, if_true] <;> omega
      · simp only [h, if_false] <;> omega
  · cases hi with
    | none => simp [sliceBounds, HT.sIx]
    | some i =>
      simp only [sliceBounds, HT.sIx, Option.getD_none, show (1 : Int) > 0 by decide, if_true]
      by_cases h : i < 0
      · simp only [h, if_true] <;> omega
      · simp only [h, if_false] <;> omega
theorem slicePick_cut (its : List Value) (lo hi : Option Int) : slicePick its.toArray lo hi none = ((its.drop (HT.sIx its.length 0 lo)).take (HT.sIx its.length its.length hi - HT.sIx its.length 0 lo)).toArray := by
  obtain ⟨h1, h2, h3⟩ := slice_bounds lo hi its.toArray.size
  unfold slicePick
  rw [h1, h2, h3]
  simp only [sliceRange_one, pick_run, List.size_toArray] <;> rfl
/-- xs[lo:hi] of a list: a new list -/
def rSlL (K : PySem.W.Frag) : V → Option Int → Option Int → Hp → VK → Prop := fun x lo hi H Q => ∃ a xs, x = .ref a ∧ SqL K H a xs ∧ ∀ p, H p = none → Q (.ref p) (upd H p (.lst (cutV xs lo hi)))
theorem sl_list : SlR X (rSlL X.K) := by
  intro pins s σ H x v vl vu lo hi sl Q I rx hs pl pu h
  obtain ⟨a, xs, rfl, hx, q⟩ := h
  cases rx
  obtain ⟨its, r, ht, hz⟩ := I.list hx
  have hlen := r.length
  refine ⟨"list", _, slot_list_getitem.lookup, ht.isList.typeIs, ?_⟩
  refine wpAny_getItem_list_slice ht.isList hs pl pu .none (by simp) ?_ (by rw [List.size_toArray] <;> omega)
  rw [slicePick_cut, ← hlen]
  refine ⟨.ref s.heap.objs.size, _, I.laid (t' := s.toks) (o := .lst (cutV xs lo hi)) (fun b ob q => Heap.get?_push_of_some _ q) (Nat.le_refl _) ?_, rfl, q _ (I.hok.fresh (Nat.le_refl _))⟩
  exact ⟨Nat.le_trans (cutV_length xs lo hi) hz, _, 0, (r.drop (HT.sIx xs.length 0 lo)).take (HT.sIx xs.length xs.length hi - HT.sIx xs.length 0 lo), Heap.get?_push_size _ rfl⟩
def flatV : V → Bool
  | .non => true
  | .bl _ => true
  | .int _ => true
  | .str _ => true
  | _ => false
/-- == of flat values -/
def eqV : V → V → Bool
  | .non, .non => true
  | .bl a, .bl b => a == b
  | .bl a, .int b => (if a then 1 else 0) == b
  | .int a, .bl b => a == (if b then 1 else 0)
  | .int a, .int b => a == b
  | .str a, .str b => a == b
  | _, _ => false
theorem eqAt_V {A : Around} {s : Shared} {y x : V} {u v : Value} (ry : RelV y u) (rx : RelV x v) (fy : flatV y = true) (fx : flatV x = true) : SeqAt.EqAt A s u v (eqV y x) := by
  cases y with
  | non =>
    cases ry
    cases x with
    | non => cases rx; exact SeqAt.EqAt.same _
    | bl b => cases rx; exact SeqAt.EqAt.none_bool b
    | int b => obtain ⟨t, rfl⟩ := rx; exact SeqAt.EqAt.none_int b t
    | str b => obtain ⟨t, rfl⟩ := rx; exact SeqAt.EqAt.none_str b t
    | _ => exact absurd (show false = true from fx) Bool.false_ne_true
  | bl a =>
    cases ry
    cases x with
    | non => cases rx; exact SeqAt.EqAt.bool_none a
    | bl b => cases rx; exact SeqAt.EqAt.bool_bool a b
    | int b => obtain ⟨t, rfl⟩ := rx; exact SeqAt.EqAt.bool_int a b t
    | str b => obtain ⟨t, rfl⟩ := rx; exact SeqAt.EqAt.bool_str a b t
    | _ => exact absurd (show false = true from fx) Bool.false_ne_true
  | int a =>
    obtain ⟨t', rfl⟩ := ry
    cases x with
    | non => cases rx; exact SeqAt.EqAt.int_none a t'
    | bl b => cases rx; exact SeqAt.EqAt.int_bool a t' b
    | int b => obtain ⟨t, rfl⟩ := rx; exact SeqAt.EqAt.int_int a t' b t
    | str b => obtain ⟨t, rfl⟩ := rx; exact SeqAt.EqAt.int_str a t' b t
    | _ => exact absurd (show false = true from fx) Bool.false_ne_true
  | str a =>
    obtain ⟨t', rfl⟩ := ry
    cases x with
    | non => cases rx; exact SeqAt.EqAt.str_none a t'
    | bl b => cases rx; exact SeqAt.EqAt.str_bool a t' b
    | int b => obtain ⟨t, rfl⟩ := rx; exact SeqAt.EqAt.str_int a t' b t
    | str b => obtain ⟨t, rfl⟩ := rx; exact SeqAt.EqAt.str_str a t' b t
    | _ => exact absurd (show false = true from fx) Bool.false_ne_true
  | _ => exact absurd (show false = true from fy) Bool.false_ne_true
theorem call_len_seq : CallR X (.builtin "len") (fun xs H Q => ∃ p ys, xs = [.ref p] ∧ (SqL X.K H p ys ∨ SqT X.K H p ys) ∧ Q (.int ys.length) H) := by
  intro pins s σ H xs us Q I r h
  obtain ⟨p, ys, rfl, hq, q⟩ := h
  obtain ⟨u, rfl, rx⟩ := vals1 r
  cases rx
  have hn := line63
  rcases hq with hq | hq
  · obtain ⟨its, r', pl, hz⟩ := I.list hq
    have hlen := r'.length
    exact Calls.call_len_list pl.isList (by simp only [List.size_toArray] <;> omega) ⟨.int ys.length, H, I.tok _, ⟨s.toks + 1, by rw [List.size_toArray, hlen]⟩, q⟩
  · obtain ⟨its, r', pl, hz⟩ := I.tuple hq
    have hlen := r'.length
    exact len_tuple pl (by simp only [List.size_toArray] <;> omega) ⟨.int ys.length, H, I.tok _, ⟨s.toks + 1, by rw [List.size_toArray, hlen]⟩, q⟩
theorem call_len_str : CallR X (.builtin "len") (fun xs H Q => ∃ z, xs = [.str z] ∧ z.length ≤ sizeLine ∧ Q (.int z.length) H) := by
  intro pins s σ H xs us Q I r h
  obtain ⟨z, rfl, hz, q⟩ := h
  obtain ⟨u, rfl, t, rfl⟩ := vals1 r
  have hn := line63
  exact len_str (by omega) ⟨.int z.length, H, I.tok _, ⟨_, rfl⟩, q⟩
theorem call_list_of : CallR X (.type "list") (fun xs H Q => ∃ p ys, xs = [.ref p] ∧ (SqL X.K H p ys ∨ SqT X.K H p ys) ∧ ∀ l, H l = none → Q (.ref l) (upd H l (.lst ys))) := by
  intro pins s σ H xs us Q I r h
  obtain ⟨p, ys, rfl, hq, q⟩ := h
  obtain ⟨u, rfl, rx⟩ := vals1 r
  cases rx
  have fin : ∀ (its : List Value), Vals ys its → ys.length ≤ sizeLine → ∀ (h' : Heap) (c' : Nat), (∀ b o', s.heap.get? b = some o' → h'.get? b = some o') →
      h'.get? s.heap.objs.size = some { cls := .type "list", dict := none, data := .seq its.toArray c', slots := #[] } → EP X pins σ Q (.ref s.heap.objs.size) { s with heap := h' } := fun its r' hz h' c' kp e =>
    ⟨.ref s.heap.objs.size, _, I.laid (t' := s.toks) kp (Nat.le_refl _) (show ObjOk X.prog X.w _ h' _ (.lst ys) from ⟨hz, its, c', r', e⟩), rfl, q _ (I.hok.fresh (Nat.le_refl _))⟩
  rcases hq with hq | hq
  · obtain ⟨its, r', pl, hz⟩ := I.list hq
    have hlen := r'.length
    obtain ⟨o, ho, hc, n, hd⟩ := pl.isList
    exact call_list_seq p (.inl rfl) ho hc hd (fun h' c' kp e => fin its r' hz h' c' kp e) (by simp only [List.size_toArray] <;> omega)
  · obtain ⟨its, r', pl, hz⟩ := I.tuple hq
    have hlen := r'.length
    obtain ⟨o, ho, hc, n, hd⟩ := pl
    exact call_list_seq p (.inr rfl) ho hc hd (fun h' c' kp e => fin its r' hz h' c' kp e) (by simp only [List.size_toArray] <;> omega)
theorem call_tuple_of : CallR X (.type "tuple") (fun xs H Q => ∃ p ys, xs = [.ref p] ∧ ((SqL X.K H p ys ∧ ∀ l, H l = none → Q (.ref l) (upd H l (.tup ys))) ∨ (SqT X.K H p ys ∧ Q (.ref p) H))) := by
  intro pins s σ H xs us Q I r h
  obtain ⟨p, ys, rfl, h⟩ := h
  obtain ⟨u, rfl, rx⟩ := vals1 r
  cases rx
  rcases h with ⟨hq, q⟩ | ⟨hq, q⟩
  · obtain ⟨its, r', pl, hz⟩ := I.list hq
    have hlen := r'.length
    refine call_tuple_list pl.isList (fun h' kp => ?_) (by simp only [List.size_toArray] <;> omega)
    have I1 : Inv X pins σ H { s with heap := h' } := I.kept (t' := s.toks) kp
    have I2 : Inv X pins σ (upd H h'.objs.size (.tup ys)) { s with heap := h'.push { cls := .type "tuple", data := .seq its.toArray } } :=
      I1.laid (t' := s.toks) (fun b o e => Heap.get?_push_of_some _ e) (Nat.le_refl _) (show ObjOk X.prog X.w _ _ _ (.tup ys) from ⟨hz, its, r', IsTup.new _ _⟩)
    exact ⟨.ref h'.objs.size, _, I2, rfl, q _ (I1.hok.fresh (Nat.le_refl _))⟩
  · obtain ⟨its, r', pl, hz⟩ := I.tuple hq
    exact call_tuple_same pl ⟨.ref p, H, I, rfl, q⟩
/-- the value is of that builtin type -/
def tyV (K : PySem.W.Frag) (T : String) (x : V) (H : Hp) : Prop := match x with
  | .str _ => T = "str"
  | .int _ => T = "int"
  | .ref p => (T = "list" ∧ ∃ xs, SqL K H p xs) ∨ (T = "tuple" ∧ ∃ o, K.lookup p = some o ∧ o.cls = .type "tuple" ∧ o.dict = none) ∨
      (T = "dict" ∧ ((∃ kvs, H p = some (.dK kvs)) ∨ ∃ kvs, H p = some (.dT kvs))) ∨ (T = "set" ∧ ∃ S n, H p = some (.set S n))
  | _ => False
theorem tyV_is {pins : List (Addr × Obj)} {σ : St} {H : Hp} {s : Shared} {T : String} {x : V} {v : Value} (I : Inv X pins σ H s) (r : RelV x v) (ty : tyV X.K T x H) :
    s.TypeIs v T ∧ ∀ a, v = .ref a → ∃ ob, s.heap.get? a = some ob ∧ ob.dict = none := by
  cases x with
  | str z =>
    obtain ⟨t, rfl⟩ := r
    cases (show T = "str" from ty)
    exact ⟨typeIs_str s z t, fun _ e => nomatch e⟩
  | int i =>
    obtain ⟨t, rfl⟩ := r
    cases (show T = "int" from ty)
    exact ⟨typeIs_int s i t, fun _ e => nomatch e⟩
  | ref p =>
    cases r
    rcases ty with ⟨rfl, xs, hq⟩ | ⟨rfl, o, hk, hc, hd⟩ | ⟨rfl, hk⟩ | ⟨rfl, S, n, hk⟩
    · obtain ⟨its, _, pl, _⟩ := I.list hq
      refine ⟨pl.isList.typeIs, fun a e => ?_⟩
      cases e
      obtain ⟨o, n, e, c, hd, _⟩ := pl
      exact ⟨o, e, hd⟩
    · refine ⟨⟨o, I.kIn p o hk, hc⟩, fun a e => ?_⟩
      cases e
      exact ⟨o, I.kIn _ o hk, hd⟩
    · have z : ∃ o, s.heap.get? p = some o ∧ o.ExactDict := by
        rcases hk with ⟨kvs, hk⟩ | ⟨kvs, hk⟩
        · obtain ⟨_, _, _, _, o, _, _, e, ex, _⟩ := I.hok p _ hk
          exact ⟨o, e, ex⟩
        · obtain ⟨_, _, _, _, o, _, _, e, ex, _⟩ := I.hok p _ hk
          exact ⟨o, e, ex⟩
      obtain ⟨o, e, ex⟩ := z
      refine ⟨⟨o, e, ex.1⟩, fun a e2 => ?_⟩
      cases e2
      exact ⟨o, e, ex.2.1⟩
    · obtain ⟨o, _, _, _, e, ex, _⟩ := I.hok p _ hk
      refine ⟨⟨o, e, ex.1⟩, fun a e2 => ?_⟩
      cases e2
      exact ⟨o, e, ex.2.1⟩
  | _ => exact False.elim ty
def tBM (K : PySem.W.Frag) (T : String) (r : V → List V → Hp → VK → Prop) (to : TE) (t : TA) : TE := fun σ H Q => to σ H fun x H1 => tyV K T x H1 ∧ t σ H1 fun xs H2 => r x xs H2 Q
variable {o e : Expr} {es : List Expr} {to : TE} {t : TA} {name : Str} {apos cpos : Pos} {T id : String} {r : V → List V → Hp → VK → Prop}
theorem pe_bm (pa : PlainAttrs T) (slot : Slot T name id) (hty : typeOf (.builtin id) = pure (.type "method_descriptor")) (hm : MtR X id r) (ho : PE X o to) (ha : PA X (e :: es) t)
    (hbase : attributeBase o name X.env (eval o X.env) = eval o X.env := by rfl)
    (hfew : ((backTo cpos (starEach (e :: es) X.env)).all (fun x => !x.1) && (backToKw cpos (keywordEach [] X.env)).all (fun x => x.1.isSome)
      && decide ((e :: es).length + ([] : List Keyword).length + (if ([] : List Keyword).isEmpty then 0 else 1) < 30)) = true := by rfl)
    (hline : (apos.endLine == cpos.line) = true := by rfl) (hs : starEach (e :: es) X.env = (false, eval e X.env) :: starEach es X.env := by rfl) (hplain : (backTo cpos (starEach es X.env)).any (·.1) = false := by rfl) :
    PE X (.Call (.Attribute o name apos) (e :: es) [] cpos) (tBM X.K T r to t) := by
  intro pins s σ H Q I h
  refine wpAny_Call_method_late hbase hfew hline rfl (thn (ho pins s σ H _ I h) fun v s1 ⟨x, H1, I1, r1, ty, q1⟩ => ?_)
  obtain ⟨h1, h2⟩ := tyV_is I1 r1 ty
  refine ⟨T, id, pa, slot, hty, h1, h2, ?_⟩
  have hA := ha cpos pins s1 σ H1 _ I1 q1
  rw [hs] at hA ⊢
  refine Calls.callWith_builtin (by show (false || (backTo cpos (starEach es X.env)).any (·.1)) = false; rw [hplain] <;> rfl) (Calls.evalArgs_plain ?_)
  exact thn hA fun us s2 ⟨vs, H2, I2, r2, q2⟩ => hm pins s2 σ H2 x vs v us Q I2 r1 r2 q2
/- xs.append(e), list.index on a module's tuple .. are MtR facts of 06m -/
end
end L2
namespace L2
open PySem PySem.Spec PyProof.Rows
def MtM (X : Cx) (id : String) (r : V → List V → Hp → VK → Prop) : Prop :=
  ∀ (pins : List (Addr × Obj)) (s : Shared) (σ : St) (H : Hp) (x : V) (xs : List V) (v : Value) (us : List Value) (Q : VK), Inv X pins σ H s → RelV x v → Vals xs us → r x xs H Q →
    wpAny (model X.prog X.w) X.A (call (.builtin id) (v :: us)) (EP X pins σ Q) X.xe s
theorem Vals.one : ∀ {x : V} {us : List Value}, Vals [x] us → ∃ u, us = [u] ∧ RelV x u
  | _, _, .cons r .nil => ⟨_, rfl, r⟩
section
variable {X : Cx} {pins : List (Addr × Obj)} {σ : St} {H : Hp} {s : Shared} {l b : Addr} {xs ys zs : List V}
theorem Inv.lset {its its' : List Value} {n : Nat} {f : Array Value → Array Value} {t' : Nat} (I : Inv X pins σ H s) (hH : H l = some (.lst xs))
    (e : s.heap.get? l = some { cls := .type "list", data := .seq its.toArray n }) (hf : f its.toArray = its'.toArray) (hv : Vals ys its') (hz : ys.length ≤ sizeLine) :
    Inv X pins σ (upd H l (.lst ys)) { s with heap := s.heap.update l (Obj.mapSeq f), toks := t' } := by
  have q := PySem.IsL.update e f
  rw [hf] at q
  refine I.write (x := l) (e := l) (by rw [hH]; exact trivial) (.inl rfl) (fun b' u hb hu => (Heap.get?_update_other s.heap (Obj.mapSeq f) (Ne.symm hb)).trans hu) ⟨_, q⟩ ?_
  exact ⟨hz, its', _, hv, q⟩
theorem Inv.lnew {its : List Value} {t' : Nat} (I : Inv X pins σ H s) (hv : Vals ys its) (hz : ys.length ≤ sizeLine) :
    Inv X pins σ (upd H s.heap.objs.size (.lst ys)) { s with heap := s.heap.push { cls := .type "list", data := .seq its.toArray }, toks := t' } :=
  I.laid (fun _ _ q => Heap.get?_push_of_some _ q) (Nat.le_refl _) ⟨hz, its, 0, hv, Heap.get?_push_size _ rfl⟩
theorem Inv.fresh (I : Inv X pins σ H s) : H s.heap.objs.size = none := I.hok.fresh (Nat.le_refl _)
theorem Inv.lstM (I : Inv X pins σ H s) (hH : H l = some (.lst xs)) : xs.length ≤ sizeLine ∧ ∃ (its : List Value) (n : Nat), Vals xs its ∧ xs.length = its.length ∧ s.heap.get? l = some { cls := .type "list", data := .seq its.toArray n } := by
  obtain ⟨z, its, n, r, e⟩ := I.hok l _ hH
  exact ⟨z, its, n, r, r.length, e⟩
end
section
variable {X : Cx}
def rAppend : V → List V → Hp → VK → Prop := fun x vs H Q => ∃ l xs y, x = .ref l ∧ vs = [y] ∧ H l = some (.lst xs) ∧ xs.length < sizeLine ∧ Q .non (upd H l (.lst (xs ++ [y])))
theorem mt_append : MtM X "list.append" rAppend := by
  intro pins s σ H x vs v us Q I rx rv h
  obtain ⟨l, xs, y, rfl, rfl, hH, hz, q⟩ := h
  cases rx
  obtain ⟨u, rfl, ru⟩ := rv.one
  obtain ⟨z, its, n, r, hl, e⟩ := I.lstM hH
  refine call_meets F.slot_list_append ⟨_, e, rfl⟩ F.entry_list_append (F.args_list_append_2 _ _) (PySem.list_append l its.toArray n u (by rw [List.size_toArray]; omega)) ⟨e, ?_⟩
  refine ⟨.non, _, I.lset (its' := its ++ [u]) hH e (by simp) (r.append (.cons ru .nil)) ?_, rfl, q⟩
  rw [List.length_append, List.length_singleton]
  omega
def rCat : R2 := fun x y H Q => ∃ l b xs zs, x = .ref l ∧ y = .ref b ∧ H l = some (.lst xs) ∧ H b = some (.lst zs) ∧ xs.length + zs.length ≤ sizeLine ∧ ∀ p, H p = none → Q (.ref p) (upd H p (.lst (xs ++ zs)))
theorem op_cat : OpR X (binaryOp .Add) rCat := by
  intro pins s σ H x y v u Q I rx ry h
  obtain ⟨l, b, xs, zs, rfl, rfl, hH, hB, hz, q⟩ := h
  cases rx
  cases ry
  obtain ⟨z, its, n, r, hl, e⟩ := I.lstM hH
  obtain ⟨z2, its2, n2, r2, hl2, e2⟩ := I.lstM hB
  refine PySem.P.add_list e e2 ?_ (by rw [List.size_toArray, List.size_toArray]; omega)
  have ea : its.toArray ++ its2.toArray = (its ++ its2).toArray := by simp
  rw [ea]
  exact ⟨.ref _, _, I.lnew (t' := s.toks) (r.append r2) (by rw [List.length_append]; omega), rfl, q _ I.fresh⟩
end
section
variable {prog : Program} {w : World} {A : Around} {E : Value → Shared → Prop} {s : Shared}
set_option maxRecDepth 100000 in
end
section
variable {X : Cx}
end
end L2
namespace Att
open PySem PySem.W PySem.Calls PyProof.Rows
theorem ints_of_wellAll {P : Params} {h : Heap} : ∀ (ns : List Int) (vs : List Value), WellAll P h vs (ns.map WData.int) → IntsAre vs ns := by
  intro ns
  induction ns with
  | nil =>
    intro vs w
    rw [List.map_nil] at w
    cases w
    exact .nil
  | cons n ns ih =>
    intro vs w
    rw [List.map_cons] at w
    cases w with
    | cons a b =>
      cases a
      exact .cons _ _ (ih _ b)
theorem script_of {l : OpenLaw} {n : Nat} (hn : l.most = some n) {P : Params} {h : Heap} {args : List WData} {vals : List Value}
    (hpre : l.row.toRowW.claim.pre args = true) (hwl : WellAll P h vals args) :
    ∃ a vs ns, vals = [Value.ref a] ∧ args = [WData.list (ns.map WData.int)] ∧ h.get? a = some { cls := .type "list", data := .seq vs.toArray } ∧ IntsAre vs ns ∧ ns.length ≤ n := by
  have hsh : WShape.hasAll [] args [.list .int] = true := (pre_splitW hpre).1
  have hc : l.pre.holds [] { args := args } = true := (pre_splitW hpre).2
  obtain ⟨d, r, rfl, h1, h2⟩ := hasAllW_cons hsh
  obtain rfl := hasAllW_nil h2
  obtain ⟨xs, rfl, h3⟩ := hasW_list h1
  obtain ⟨ns, rfl⟩ := items_int h3
  have hlen : ns.length ≤ n := by
    unfold OpenLaw.pre at hc
    have h4 : (WTm.not (.lt (.lit (.int (n : Int))) (.len (.arg 0)))).holds [] { args := [.list (ns.map .int)] } = true := by
      have h4 := (holds_andW hc).1
      rw [hn] at h4
      exact h4
    have h5 := condW_of h4 (w_not (w_lt w_lit (w_len_list (w_arg rfl))))
    rw [List.length_map] at h5
    refine Nat.le_of_not_lt fun q => ?_
    have q' : (n : Int) < ((ns.length : Nat) : Int) := by omega
    first
      | (rw [decide_eq_true q'] at h5; exact absurd h5 (by decide))
      | (simp at h5; omega)
  cases hwl with
  | cons w1 w2 =>
    cases w2
    cases w1 with
    | list ho hall => exact ⟨_, _, ns, rfl, rfl, ho, ints_of_wellAll ns _ hall, hlen⟩
theorem post_true (l : OpenLaw) (args : List WData) : l.row.toRowW.claim.post args (.bool true) args = true :=
  postW_of (r := l.row.toRowW) (X := (true == true))
    (show WShape.has [] (.bool true) .bool = true by first | rfl | decide | simp [WShape.has, WShape.arms, WShape.armsAll])
    (show (WTm.eq .res (.lit (.bool true))).value [] { args := args, res := some (.bool true), after := args } = some (.bool (true == true)) from w_eq_bool (w_res rfl) w_lit) rfl
/-- the same from a codeAny of the CALL (for a layer whose function contracts speak of calls) -/
theorem attach_call {l : OpenLaw} {n : Nat} {q : Program} {loose : List Str} {XP : (Str → Option Value) → Heap → Prop} {YP : World → Heap → Prop} {d : DefRec}
    (hn : l.most = some n) (hdf : d.params.defaults = [])
    (call : ∀ (w : World) (s₀ s₁ : Shared) (mg mb : Str → Option Value) (fa : Addr) (o : Obj) (pm cd doc : Value) (a : Addr) (vs : List Value) (ns : List Int),
      Ground q loose [] XP w s₀ mg mb s₁.heap → YP w s₁.heap →
      s₁.heap.get? fa = some o → o.data = .func (docDef d.name d.params d.body d.scope pm cd doc) → s₁.heap.CodeRec cd d.name → mg d.name = some (.ref fa) →
      s₁.heap.get? a = some { cls := .type "list", data := .seq vs.toArray } → IntsAre vs ns → ns.length ≤ n → s₁.gens = #[] →
      codeAny (model l.prog w) callerA (.call (.ref fa) ⟨[.ref a], []⟩) (fun r s' => r = .ok (.ret (.bool true)) ∧ OldK s₁.heap s'.heap ∧ s'.os = s₁.os ∧ AllBare s'.gens) s₁) :
    WalkO q loose XP YP l.row.toRowW d [] (fun f vs => PySem.call f vs) := by
  intro w s₀ s₁ mg mb G Y fa o pm cd doc dV kV ho hd hcd hD hmg hg args vals as hpre hlay hrd hwl hlo
  obtain rfl : dV = .none := Dflts.none hD hdf
  obtain rfl : kV = .none := Dflts.noKw hD
  obtain ⟨a, vs, ns, rfl, rfl, hobj, hints, hlen⟩ := script_of hn hpre hwl
  refine enter_call (codeAny_mono (call w s₀ s₁ mg mb fa o pm cd doc a vs ns G Y ho (fd_plain hd) hcd hmg hobj hints hlen hg) fun r s' hq => ?_)
  obtain ⟨rfl, h2, h3, h4⟩ := hq
  exact ⟨.inl ⟨.bool true, .bool true, [], rfl, fun _ => rfl, .bool true, post_true l _, fun _ => ⟨List.Pairwise.nil, fun _ hm => (nomatch hm)⟩⟩, h2, h3, h4⟩
section
variable {prog : Program} {w : World} {A : Around} {E : Value → Shared → Prop} {s : Shared} {K : Frag}
end
end Att
namespace L2
open PySem PySem.Spec PyProof.Rows
theorem vals_ints : ∀ {vs : List Value} {ns : List Int}, IntsAre vs ns → Vals (ns.map V.int) vs
  | _, _, .nil => .nil
  | _, _, .cons n t h => .cons ⟨t, rfl⟩ (vals_ints h)
/-- nothing is tracked but the script, known to the object (or it is an object of the module) -/
def Only (H : Hp) : Prop := ∀ b, H b = none ∨ ∃ o xs, H b = some (.frz o (.lst xs))
/-- THE HEAD: the law's promise, at the heap behind the top. F, the promise of the law's def, may use that base is part of the heap (so K.In base, base.Ns mainGlobals mg stand in Mod) -/
theorem law_call {P : Program} {w : World} {K : PySem.W.Frag} {mg mb : Str → Option Value} {CX : CXT} {k : Nat} {fa a : Addr} {fd : FuncData} {x : Str} {sp : Sp} {s₁ : Shared} {vs : List Value} {ns : List Int}
    (KX : K.In s₁.heap) (hns : s₁.heap.Ns mainGlobals mg) (hb : s₁.heap.Ns builtinsNs mb) (hbb : ∀ x : Str, x ≠ "__name__" → mb x = bootBuiltins x) (hlim : s₁.heap.NoLimit) (hg : s₁.gens = #[])
    (ha : s₁.heap.get? a = some { cls := .type "list", data := .seq vs.toArray }) (hi : IntsAre vs ns) (hl : ns.length ≤ sizeLine) (hr : Room k callerA)
    (F : ∀ base : Heap, K.In base → base.Ns mainGlobals mg → FnOk P w K mg base CX k fa fd [x] sp) (hbind : ∀ (s : Shared) (u : Value), BindsTo s fd ⟨[u], []⟩ [(x, u)])
    (hsp : ∀ H : Hp, Only H → SqL K H a (ns.map V.int) → sp [.ref a] H (fun v _ => v = .bl true) fun _ _ _ => False)
    (hCX : ∀ H e s', CX [] H s₁ (fun _ _ _ => False) e s' → False) :
    codeAny (model P w) callerA (.call (.ref fa) ⟨[.ref a], []⟩) (fun r s' => r = .ok (.ret (.bool true)) ∧ OldK s₁.heap s'.heap ∧ s'.os = s₁.os ∧ AllBare s'.gens) s₁ := by
  have rv := vals_ints hi
  have lenV := hi.length
  -- from an abstract heap in which nothing but the script may be tracked
  have core : ∀ H : Hp, Only H → SqL K H a (ns.map V.int) → HOk P w H s₁.heap → (∀ b, H b ≠ none → b = a) → (H a ≠ none → K.lookup a = none) →
      codeAny (model P w) callerA (.call (.ref fa) ⟨[.ref a], []⟩) (fun r s' => r = .ok (.ret (.bool true)) ∧ OldK s₁.heap s'.heap ∧ s'.os = s₁.os ∧ AllBare s'.gens) s₁ := by
    intro H hO hS hok hA hK
    have base_of : ∀ {b : Addr} {o : Obj}, s₁.heap.get? b = some o → H b = none → (hidT s₁.heap H).get? b = some o := fun e n => hidT_get e n
    have noA : ∀ {b : Addr} {o : Obj} {es : Array DictEntry} {ep : Nat}, s₁.heap.get? b = some o → o.data = .dict es ep → H b = none := fun {b o es ep} e d => by
      cases q : H b with
      | none => rfl
      | some u =>
        have e' : b = a := hA b (by rw [q]; simp)
        subst e'
        rw [ha] at e; cases e
        have d' : Data.seq vs.toArray _ = Data.dict es ep := d
        cases d'
    have nsK : ∀ {b : Addr} {m : Str → Option Value}, s₁.heap.Ns b m → (hidT s₁.heap H).Ns b m := fun {b m} ⟨o, es, ep, e, d, r⟩ => ⟨o, es, ep, base_of e (noA e d), d, r⟩
    have hKb : K.In (hidT s₁.heap H) := fun b o e => base_of (KX b o e) (by
      cases q : H b with
      | none => rfl
      | some u =>
        have e' : b = a := hA b (by rw [q]; simp)
        subst e'
        rw [hK (by rw [q]; simp)] at e; cases e)
    have hM : Mod K mg (hidT s₁.heap H) := ⟨hKb, nsK hns, ⟨mb, nsK hb, hbb⟩, let ⟨mc, h1, h2⟩ := hlim; ⟨mc, nsK h1, h2⟩⟩
    have e0 : Env0 P w K mg (hidT s₁.heap H) callerA [] s₁ H := ⟨rfl, hM, fun b o e => of_hidT e, Nat.le_of_eq (hidT_size _ _), trivial, fun b hb => absurd (show b ∈ ([] : List Addr) from hb) (by simp), hok, .of_eq hg⟩
    refine codeAny_mono ((F _ hKb (nsK hns)).run callerA [] s₁ H ⟨[.ref a], []⟩ [.ref a] [.ref a] _ _ hr e0 (hbind s₁ (.ref a)) (.cons rfl .nil) (hsp H hO hS)) fun r s' h => ?_
    cases r with
    | error e => exact (hCX H e s' h).elim
    | ok fl =>
      cases fl with
      | next => exact False.elim h
      | brk => exact False.elim h
      | cont => exact False.elim h
      | ret u =>
        obtain ⟨v, H', os, bare, un, hok', r', q⟩ := h
        have q' : v = .bl true := q
        subst q'
        obtain rfl : u = Value.bool true := r'
        refine ⟨rfl, OldK.of_keep fun b o e => ?_, os, bare⟩
        cases q : H b with
        | none => exact un.keep b o e q (by intro z; exact absurd (show b ∈ ([] : List Addr) from z) (by simp)) (by simp)
        | some u =>
          rcases hO b with z | ⟨ob, xs, z⟩
          · rw [q] at z; cases z
          · have z2 := un.frzs b ob _ z
            obtain ⟨e1, _⟩ := hok b _ z
            obtain ⟨e2, _⟩ := hok' b _ z2
            rw [e] at e1; cases e1
            exact e2
  cases hk : K.lookup a with
  | some o =>
    -- the script is one of the module's own objects
    have e := KX a o hk
    rw [ha] at e
    cases e
    refine core (fun _ => none) (fun _ => .inl rfl) (.inr ⟨_, vs.toArray, _, hk, rfl, rfl, rfl, by rw [List.size_toArray, lenV]; exact hl, by simpa using rv⟩) (fun b u z => by have z' : (none : Option HO) = some u := z; cases z') (fun b z => absurd rfl z) fun z => absurd rfl z
  | none =>
    refine core (fun b => if b = a then some (.frz { cls := .type "list", data := .seq vs.toArray } (.lst (ns.map V.int))) else none) (fun b => ?_) (.inl (.inr ⟨{ cls := .type "list", data := .seq vs.toArray }, if_pos rfl⟩)) (fun b u z => ?_) (fun b z => ?_) fun _ => hk
    · by_cases hb : b = a
      · exact .inr ⟨_, _, if_pos hb⟩
      · exact .inl (if_neg hb)
    · by_cases hb : b = a
      · have z' := (if_pos hb).symm.trans z
        cases z'
        subst hb
        exact ⟨ha, by rw [List.length_map]; exact hl, vs, _, rv, ha⟩
      · have z' := (if_neg hb).symm.trans z
        cases z'
    · by_cases hb : b = a
      · exact hb
      · exact absurd (if_neg hb) z
end L2
namespace L2
open PySem PySem.Spec PyProof.Rows
/-- the goal that k_head leaves (case hc), from the law's promise. F gives the function object fd (K's own) once, then the promise over every base -/
theorem walk_of {l : PySem.W.OpenLaw} {n k : Nat} {q : Program} {loose : List Str} {XP : (Str → Option Value) → Heap → Prop} {YP : World → Heap → Prop} {d : DefRec} {K : Params → PySem.W.Frag} {CX : World → CXT} {sp : World → Sp} {x : Str}
    (hn : l.most = some n) (hn2 : n ≤ sizeLine) (hdf : d.params.defaults = []) (hr : Room k callerA)
    (hY : ∀ (w : World) (h : Heap), YP w h → (K w.params).In h)
    (F : ∀ (w : World) (mg : Str → Option Value) (fa : Addr) (h : Heap), (K w.params).In h → h.Ns mainGlobals mg → mg d.name = some (.ref fa) →
      ∃ fd : FuncData, (∀ (s : Shared) (u : Value), BindsTo s fd ⟨[u], []⟩ [(x, u)]) ∧
        ∀ base : Heap, (K w.params).In base → base.Ns mainGlobals mg → FnOk l.prog w (K w.params) mg base (CX w) k fa fd [x] (sp w))
    (hsp : ∀ (w : World) (H : Hp) (a : Addr) (ns : List Int), ns.length ≤ n → Only H → SqL (K w.params) H a (ns.map V.int) → sp w [.ref a] H (fun v _ => v = .bl true) fun _ _ _ => False)
    (hCX : ∀ (w : World) (H : Hp) (s : Shared) (e : Value) (s' : Shared), CX w [] H s (fun _ _ _ => False) e s' → False) :
    PySem.W.WalkO q loose XP YP l.row.toRowW d [] (fun f vs => PySem.call f vs) := by
  refine Att.attach_call hn hdf fun w s₀ s₁ mg mb fa o pm cd doc a vs ns G Y ho hd hcd hmg hobj hints hlen hg => ?_
  have KX := hY w _ Y
  obtain ⟨fd, hb, hF⟩ := F w mg fa _ KX G.T.g hmg
  exact law_call KX G.T.g G.T.b G.T.builtins G.T.nolimit hg hobj hints (Nat.le_trans hlen hn2) hr hF hb (fun H hO hS => hsp w H a ns hlen hO hS) fun H e s' => hCX w H s₁ e s'
end L2
/- THE LAST THEOREM (shape; LID, My.* are yours):
   My.Adr: a structure of the addresses that your layer names (classes, functions); My.Txt K t: a structure (Prop) of the equations over K;
   My.txt_mk : {K} {implicit addresses ..} (e1 : nsIn K mainGlobals "law" = some (some (.ref f))) (e2 : K.lookup f = some ⟨oc, od, .func (fnOf "law" "law" params body scope dV kV doc pm an cdv ct), sl⟩) (e3 : codeIn K cdv "law" = true) .. : ∃ t, My.Txt K t
set_option maxRecDepth 100000 in
set_option maxHeartbeats 0 in
theorem PySem.Challenge.cw_LID_holds : PySem.Challenge.rw_LID.Holds := by
  w_on; o_law; k_head; (case hw => w_witness2)
  k_fill
  refine L2.walk_of (l := PySem.Challenge.rw_LID) (n := 63) (k := 40) (x := "script") (CX := fun w => ..) (sp := fun _ => My.sp_law) rfl (by decide) rfl ⟨rfl, by decide, by decide⟩ (fun w h Y => PySem.W.kIn_of Y) ?F ?S ?C
  case F =>
    intro w mg fa h KX G hmg
    have T : ∃ t, My.Txt (L2.KOf KX) t := by
      dsimp only [L2.KOf]                          -- K must stand as «<heap const> w.params» for k_is
      refine' My.txt_mk ?e1 ?e2 ?e3 ..
      (case e1 => PySem.W.k_is)                    -- in the order: a name -> its address -> its object -> its parts
      (case e2 => PySem.W.k_is)
      ..
    obtain ⟨t, T⟩ := T
    have e0 := hmg.symm.trans (PySem.W.mg_of KX G T.law)
    cases e0                                       -- fa is the law's own address
    exact ⟨_, fun s u => .of_eq rfl, fun base kb nb => My.law_fn T kb nb⟩     -- if «.of_eq rfl» comes too early: refine' ⟨_, ?b, fun base kb nb => My.law_fn T kb nb⟩; exact fun s u => .of_eq rfl
  case S => exact fun w H a ns hl hO hS => ..
  case C => exact ..
(the tactic k_is has no namespace: write k_is) -/
namespace L2
open PySem PySem.Spec PyProof.Rows
/-- the j-th statement of a class's body -/
def inClass (s : Stmt) (j : Nat) : Stmt := match s with
  | .ClassDef _ _ _ body _ _ _ _ _ _ _ => body.getD j (.Pass ⟨0, 0, 0, 0⟩)
  | _ => .Pass ⟨0, 0, 0, 0⟩
def defArgs (s : Stmt) : Arguments := match s with
  | .FunctionDef _ a _ _ _ _ _ _ _ _ => a
  | _ => { posonlyargs := [], args := [], vararg := none, kwonlyargs := [], kw_defaults := [], kwarg := none, defaults := [] }
def defBody (s : Stmt) : List Stmt := match s with
  | .FunctionDef _ _ b _ _ _ _ _ _ _ => b
  | _ => []
def defScope (s : Stmt) : Scope := match s with
  | .FunctionDef _ _ _ _ _ _ sc _ _ _ => sc
  | _ => { kind := .function, names := [], isGenerator := false, isCoroutine := false }
abbrev CX0 : CXT := fun _ _ _ _ _ _ => False
abbrev E0 : XK := fun _ _ _ => False
theorem pass0 {X : Cx} : Passes CX0 X E0 := fun _ _ _ _ _ _ _ h => h.elim
structure Fun (K : PySem.W.Frag) (x qual : Str) (st : Stmt) (f : Addr) (fd : FuncData) : Prop where
  ex : ∃ (oc : Value) (od : Option Addr) (kV doc pm : Value) (an : Option Addr) (cdv ct : Value) (osl : Array (Option Value)),
    fd = PySem.W.fnOf x qual (defArgs st) (defBody st) (defScope st) .none kV doc pm an cdv ct ∧ K.lookup f = some ⟨oc, od, .func fd, osl⟩ ∧ PySem.W.codeIn K cdv qual = true
  kp : PySem.W.keepIn K (.ref f) = true
section
variable {P : Program} {w : World} {K : PySem.W.Frag} {mg : Str → Option Value} {base : Heap}
/-- THE RULE for a def: its body as a term of rules, and the reading of that term -/
theorem Fun.ok {x qual : Str} {st : Stmt} {f : Addr} {fd : FuncData} {N ps : List Str} {k : Nat} {sp : Sp} (F : Fun K x qual st f fd) (S : FnScope N ps (defScope st)) (len : ∀ vs H Q E, sp vs H Q E → vs.length = ps.length)
    (hbody : ∀ (cdv : Value) (A : Around) (outer : List Env) (s : Shared) (H : Hp) (vs : List V) (Q : VK) (E : XK), Room k (A.deeper (envOfC qual (defScope st) s.heap.objs.size f cdv)) → sp vs H Q E →
      ∃ t, PSs (cxOf CX0 P w K mg base N qual (defScope st) f cdv A outer s H E).nox (defBody st) t ∧ t { nx := fun _ H' => Q .non H', rt := Q } (start N vs) H) : FnOk P w K mg base CX0 (k + 1) f fd ps sp := by
  obtain ⟨oc, od, kV, doc, pm, an, cdv, ct, osl, rfl, lk, hcd⟩ := F.ex
  refine fn_of lk hcd S len fun A outer s H vs Q E hr hsp => ?_
  obtain ⟨t, h, q⟩ := hbody cdv A outer s H vs Q E hr hsp
  exact ⟨t, h.nox, q⟩
/-- how its arguments bind (no defaults): h is «fun _ _ _ _ _ _ us hl => match us, hl with | [_, _], _ => rfl», one _ a parameter -/
theorem Fun.binds {x qual : Str} {st : Stmt} {f : Addr} {fd : FuncData} {ps : List Str} (F : Fun K x qual st f fd)
    (h : ∀ (kV doc pm : Value) (an : Option Addr) (cdv ct : Value) (us : List Value), us.length = ps.length → bindArgs (PySem.W.fnOf x qual (defArgs st) (defBody st) (defScope st) .none kV doc pm an cdv ct) ⟨us, []⟩ = pure (ps.zip us)) : Binds K fd ps [] := by
  obtain ⟨oc, od, kV, doc, pm, an, cdv, ct, osl, rfl, lk, hcd⟩ := F.ex
  exact .all (h kV doc pm an cdv ct)
theorem fun_mk {x qual : Str} {st : Stmt} {f : Addr} {oc : Value} {od an : Option Addr} {osl : Array (Option Value)} {kV doc pm cdv ct : Value} (l : K.lookup f = some ⟨oc, od, .func (PySem.W.fnOf x qual (defArgs st) (defBody st) (defScope st) .none kV doc pm an cdv ct), osl⟩)
    (c : PySem.W.codeIn K cdv qual = true) (k : PySem.W.keepIn K (.ref f) = true) : Fun K x qual st f (PySem.W.fnOf x qual (defArgs st) (defBody st) (defScope st) .none kV doc pm an cdv ct) := ⟨⟨oc, od, kV, doc, pm, an, cdv, ct, osl, rfl, l, c⟩, k⟩
end
theorem small1000 {n : Nat} (h : n ≤ 1000) : n < sizeLine := Nat.lt_of_le_of_lt h (by decide)
section
variable {X : Cx}
theorem pv (i : Nat) {x : Str} {pos : Pos} (hN : X.N[i]? = some x := by rfl) (hv : Vis X.env.scope x := by first | exact Or.inl rfl | exact Or.inr (Or.inl rfl) | exact Or.inr (Or.inr rfl)) (hd : (x == ("__debug__" : Str)) = false := by decide)
    (hcd : (x == ("__classdict__" : Str)) = false := by decide) : PE X (.Name x pos) (tVar i) := pe_var hN hv hd hcd
end
theorem iteF {A B : Prop} (h : B) : if false = true then A else B := by
  rw [if_neg Bool.false_ne_true]
  exact h
theorem iteT {A B : Prop} (h : A) : if true = true then A else B := by
  rw [if_pos rfl]
  exact h
theorem ite2 {c A B : Prop} [Decidable c] (h1 : c → A) (h2 : ¬ c → B) : if c then A else B := by
  by_cases h : c
  · rw [if_pos h]
    exact h1 h
  · rw [if_neg h]
    exact h2 h
theorem iteNS {c A B : Prop} [Decidable c] (hc : c) (h : B) : if (!decide c) = true then A else B := by
  rw [decide_eq_true hc]
  exact iteF h
/-- all that was tracked is as it was -/
def Same (H H' : Hp) : Prop := ∀ b o, H b = some o → H' b = some o
theorem Same.refl (H : Hp) : Same H H := fun _ _ h => h
theorem Same.trans {H H1 H2 : Hp} (a : Same H H1) (b : Same H1 H2) : Same H H2 := fun c o h => b c o (a c o h)
theorem Same.free {H H' : Hp} (e : Same H H') {l : Addr} (h : H' l = Option.none) : H l = Option.none := by
  cases q : H l with
  | none => rfl
  | some o =>
    rw [e l o q] at h
    cases h
theorem Same.seq {K : PySem.W.Frag} {H H' : Hp} {a : Addr} {xs : List V} (e : Same H H') (h : SqL K H a xs) : SqL K H' a xs := by
  rcases h with (h | ⟨o, h⟩) | h
  · exact .inl (.inl (e _ _ h))
  · exact .inl (.inr ⟨o, e _ _ h⟩)
  · exact .inr h
end L2
set_option Elab.async false
set_option maxHeartbeats 4000000
namespace L2
open PySem PySem.Spec PyProof.Rows
def gRel (env : Env) (n : Str) (k : NameKind) : NameKind := if (k == NameKind.free && env.scope.kind == .function && env.kindOf n == some .cell) then .cell else k
theorem lookup_relabel {env : Env} {y : Str} : ∀ {names : List (Str × NameKind)},
    (names.map fun (n, k) => if (k == NameKind.free && env.scope.kind == .function && env.kindOf n == some .cell) then (n, NameKind.cell) else (n, k)).lookup y = (names.lookup y).map (gRel env y)
  | [] => rfl
  | (n, k) :: r => by
    have ih := @lookup_relabel env y r
    show List.lookup y ((if (k == NameKind.free && env.scope.kind == .function && env.kindOf n == some .cell) = true then (n, NameKind.cell) else (n, k)) :: _) = _
    have e : (if (k == NameKind.free && env.scope.kind == .function && env.kindOf n == some .cell) = true then (n, NameKind.cell) else (n, k)) = (n, gRel env n k) := by
      unfold gRel; split <;> rfl
    rw [e]
    cases hx : y == n with
    | true =>
      have : y = n := by simpa using hx
      subst this
      simp [List.lookup_cons]
    | false =>
      simp only [List.lookup_cons, hx]; exact ih
theorem names_relabel {scope : Scope} {env : Env} {y : Str} : (relabel scope env).names.lookup y = (scope.names.lookup y).map (gRel env y) := lookup_relabel
theorem closure_ok {env : Env} : ∀ {names : List (Str × NameKind)} (acc : List (Str × Addr)), (∀ n, (n, NameKind.free) ∈ names → ∃ c, env.cells.lookup n = some c) →
    (∀ y c, acc.lookup y = some c → env.cells.lookup y = some c) →
    ∃ cl, (forIn names acc fun x (r : List (Str × Addr)) => (if x.2 == NameKind.free then do let a ← cellOf env x.1; pure (ForInStep.yield ((x.1, a) :: r)) else pure (ForInStep.yield r) : Sem (ForInStep (List (Str × Addr))))) = (pure cl : Sem (List (Str × Addr))) ∧
      (∀ y c, cl.lookup y = some c → env.cells.lookup y = some c) ∧ (∀ y c, acc.lookup y = some c → ∃ c', cl.lookup y = some c') ∧ (∀ n, (n, NameKind.free) ∈ names → ∃ c, cl.lookup n = some c)
  | [], acc, _, ha => ⟨acc, rfl, ha, fun y c e => ⟨c, e⟩, fun _ h => nomatch h⟩
  | (n, k) :: r, acc, h, ha => by
    rw [List.forIn_cons]
    cases hk : k == NameKind.free with
    | true =>
      have ek : k = NameKind.free := by simpa using hk
      subst ek
      obtain ⟨c, hc⟩ := h n List.mem_cons_self
      obtain ⟨cl, e, q1, q2, q3⟩ := @closure_ok env r ((n, c) :: acc) (fun m hm => h m (List.mem_cons_of_mem _ hm)) (fun y d e => by
        rw [List.lookup_cons] at e
        cases hy : y == n with
        | true =>
          rw [hy] at e
          have : y = n := by simpa using hy
          subst this
          cases e; exact hc
        | false => rw [hy] at e; exact ha y d e)
      refine ⟨cl, ?_, q1, fun y d e => ?_, fun m hm => ?_⟩
      · have : cellOf env n = pure c := by unfold cellOf; rw [hc]
        simp only [hk, if_true, this]
        exact e
      · by_cases hy : y = n
        · subst hy
          exact q2 y c (by rw [List.lookup_cons]; simp)
        · have hy' : (y == n) = false := by simpa using hy
          exact q2 y d (by rw [List.lookup_cons, hy']; exact e)
      · rcases List.mem_cons.mp hm with z | z
        · cases z
          exact q2 _ c (by rw [List.lookup_cons]; simp)
        · exact q3 m z
    | false =>
      obtain ⟨cl, e, q1, q2, q3⟩ := @closure_ok env r acc (fun m hm => h m (List.mem_cons_of_mem _ hm)) ha
      refine ⟨cl, ?_, q1, q2, fun m hm => ?_⟩
      · simp only [hk, Bool.false_eq_true, if_false]
        exact e
      · rcases List.mem_cons.mp hm with z | z
        · cases z; simp at hk
        · exact q3 m z
theorem closureFor_ok {env : Env} {scope : Scope} (h : ∀ n, (n, NameKind.free) ∈ scope.names → ∃ c, env.cells.lookup n = some c) :
    ∃ cl, closureFor scope env = pure cl ∧ (∀ y c, cl.lookup y = some c → env.cells.lookup y = some c) ∧ (∀ n, (n, NameKind.free) ∈ scope.names → ∃ c, cl.lookup n = some c) := by
  obtain ⟨cl, e, q1, _, q3⟩ := closure_ok (env := env) [] h (fun y c z => by simp at z)
  refine ⟨cl, ?_, q1, q3⟩
  unfold closureFor
  simp only [bind_pure]
  exact e
section
variable {prog : Program} {w : World} {A : Around} {E : Value → Shared → Prop} {R : Result → Shared → Prop} {s : Shared}
theorem compLoop_own {elt target iter : Expr} {ifs : List Expr} {scope : Scope} {pos : Pos} {it acc : Value} {env : Env} (I : Nat → Shared → Prop)
    (turn : ∀ n s, I n s → wpAny (model prog w) A (pyNext it) (fun r s₁ => match r with
      | none => R (.ok .next) s₁
      | some v => wpAny (model prog w) A (letOwnedTupleGo target it v) (fun _ s₁' => wpAny (model prog w) A (assign target env v) (fun _ s₂ =>
          wpAny (model prog w) A (forIn ifs true fun c r => if r = true then do let ok ← isTrue c env (eval c env); pure (ForInStep.yield ok) else pure (ForInStep.yield r)) (fun ok s₃ =>
            if ok = true then wpAny (model prog w) A (eval elt env) (fun x s₄ =>
              wpAny (model prog w) A (call (.builtin "list.append") [acc, x]) (fun _ s₅ => ∃ m, m < n ∧ I m s₅) (fun _ _ => False) s₄) (fun _ _ => False) s₃
            else ∃ m, m < n ∧ I m s₃) (fun _ _ => False) s₂) (fun _ _ => False) s₁') (fun _ _ => False) s₁) (fun _ _ => False) s)
    (n : Nat) (h : I n s) :
    codeAny (model prog w) A (.compLoop (.ListComp elt [⟨target, iter, ifs, 0⟩] scope pos) 0 it acc env) R s := by
  refine codeAny_loop rfl I (fun n s hI => ?_) n h
  show wpAny _ A ((compTurn (.ListComp elt [⟨target, iter, ifs, 0⟩] scope pos) 0 it acc env).onRaise (fun x => do noteFrame x env; theTreesLotGoes x)) _ _ s
  refine wpAny_noted ?_
  rw [compTurn_list]
  refine wpAny_bind (wpAny_standAt (wpAny_bind (wpAny_mono (turn n s hI) (fun r s₁ h₁ => ?_) fun _ _ h' => h'.elim)))
  cases r with
  | none => exact wpAny_pure h₁
  | some v =>
    refine wpAny_bind (wpAny_mono h₁ (fun _ s₁' h₁' => ?_) fun _ _ h' => h'.elim)
    refine wpAny_bind (wpAny_mono h₁' (fun _ s₂ h₂ => wpAny_bind (wpAny_mono h₂ (fun ok s₃ h₃ => ?_) fun _ _ h' => h'.elim)) fun _ _ h' => h'.elim)
    cases ok with
    | false => exact wpAny_pure ⟨rfl, h₃⟩
    | true =>
      exact wpAny_bind (wpAny_bind (wpAny_mono h₃ (fun x s₄ h₄ => wpAny_bind (wpAny_mono h₄ (fun _ s₅ h₅ => wpAny_pure (wpAny_pure ⟨rfl, h₅⟩)) fun _ _ h' => h'.elim)) fun _ _ h' => h'.elim))
end
/-- the block's context: the loop's name is slot 0, the names around it follow -/
def cxLC (X : Cx) (scope : Scope) (cl : List (Str × Addr)) (C : Addr) (x : Str) (s0 : Shared) (H0 : Hp) (fp : List Addr) (pn : List (Addr × Obj)) : Cx :=
  { X with N := x :: X.N, s₀ := s0, H₀ := H0, env := compEnvC scope cl C X.env, outer := X.stack, stack := X.stack, ex := fp, fn := fun _ => false, pn := pn, xe := fun _ _ => False }
/-- the tests of a clause -/
def PTs (X : Cx) (ifs : List Expr) (t : TT) : Prop :=
  ∀ (pins : List (Addr × Obj)) (s : Shared) (σ : St) (H : Hp) (Q : Bool → Hp → Prop), Inv X pins σ H s → t σ H Q →
    wpAny (model X.prog X.w) X.A (forIn ifs true fun c r => if r = true then do let ok ← isTrue c X.env (eval c X.env); pure (ForInStep.yield ok) else pure (ForInStep.yield r)) (TP X pins σ Q) X.xe s
def tYes : TT := fun _ H Q => Q true H
theorem pts_nil {X : Cx} : PTs X [] tYes := fun _ _ _ H _ I h => wpAny_tests_nil ⟨H, I, h⟩
/-- what a comprehension with the readings tc, te wants of the iterator J -/
def LCw (J : It) (tc : TT) (te : TE) (σ : St) (H1 : Hp) (Q : VK) : Prop := ∃ W : Nat → Nat → List V → Hp → Prop, (∃ m, W 0 m [] H1) ∧ ∀ i m ys H, W i m ys H →
  (J.stop i H ∧ ∀ p, H p = none → Q (.ref p) (upd H p (.lst ys))) ∨
  (J.go i H ∧ ys.length < sizeLine ∧ ∃ N : List V → Hp → Prop, (∀ zs H', N zs H' → ∃ m', m' < m ∧ W (i + 1) m' zs H') ∧ ∀ x H', J.yld i H x H' → tc (some x :: σ) H' fun c H2 =>
    if c = true then te (some x :: σ) H2 fun y H3 => N (ys ++ [y]) H3 else N ys H2)
/-- W: the invariant by the turn, a measure and what stands in the new list so far -/
def tLC (wi : TI) (tc : TT) (te : TE) : TE := fun σ H Q => wi σ H fun J H1 => LCw J tc te σ H1 Q
abbrev lobj (its : List Value) (n : Nat) : Obj := { cls := .type "list", data := .seq its.toArray n }
theorem Un.late {fs ex : List Addr} {H H' : Hp} {h h1 h' : Heap} {D : Addr} {o : HO} (u : Un fs ex H H' h h1) (hlt : ∀ b q, H b = some q → b < h.objs.size) (hD : h.objs.size ≤ D) (k : ∀ b, b < h.objs.size → h'.get? b = h1.get? b) : Un fs ex H (upd H' D o) h h' where
  keep := fun b q e n hb hx => (k b (Heap.lt_size e)).trans (u.keep b q e n hb hx)
  slot := fun b q e n hb hx => by
    obtain ⟨sl, e'⟩ := u.slot b q e n hb hx
    exact ⟨sl, (k b (Heap.lt_size e)).trans e'⟩
  free := fun b q e n hx => by
    rw [upd_ne (Nat.ne_of_lt (Nat.lt_of_lt_of_le (Heap.lt_size e) hD))]; exact u.free b q e n hx
  there := fun b q e hx => by
    obtain ⟨o', e'⟩ := u.there b q e hx
    exact ⟨o', (k b (Heap.lt_size e)).trans e'⟩
  tups := fun b xs e => by rw [upd_ne (Nat.ne_of_lt (Nat.lt_of_lt_of_le (hlt b _ e) hD))]; exact u.tups b xs e
  frzs := fun b q xs e => by rw [upd_ne (Nat.ne_of_lt (Nat.lt_of_lt_of_le (hlt b _ e) hD))]; exact u.frzs b q xs e
  tbls := fun b ps e => by rw [upd_ne (Nat.ne_of_lt (Nat.lt_of_lt_of_le (hlt b _ e) hD))]; exact u.tbls b ps e
theorem pe_lc {X : Cx} {x : Str} {px : Pos} {iter elt : Expr} {ifs : List Expr} {scope : Scope} {pos : Pos} {wi : TI} {tc : TT} {te : TE} (hc : X.calm = true) (hnd : X.N.Nodup) (hi : PI X (.Name x px) iter wi)
    (ht : ∀ cl C s0 H0 fp pn, PTs (cxLC X scope cl C x s0 H0 fp pn) ifs tc) (he : ∀ cl C s0 H0 fp pn, PE (cxLC X scope cl C x s0 H0 fp pn) elt te)
    (hN : ∀ y ∈ X.N, scope.names.lookup y ≠ some .local) (hx : scope.names.lookup x = some .local)
    (hfree : ∀ y ∈ scope.names, y.2 = .free → X.env.kindOf y.1 = some .cell) (hcell : ∀ y ∈ scope.names, y.2 ≠ .cell)
    (hnames : ∀ y ∈ scope.names, y.2 = .local → scope.names.lookup y.1 = some .local) (hkind : scope.kind = .function := by rfl)
    (hs : ∀ x, foldedSetIterable iter X.env x = pure x := by intro _; rfl) : PE X (.ListComp elt [⟨.Name x px, iter, ifs, 0⟩] scope pos) (tLC wi tc te) := by
  intro pins s σ H Q I h
  obtain ⟨cl, hclos, hcl1, hcl2⟩ := closureFor_ok (env := X.env) (scope := scope) fun n hn => I.ok.has n (.inl (hfree (n, .free) hn rfl))
  rw [eval_ListComp]
  refine wpAny_comprehension_free (use := none) rfl hs hclos hkind hnames (thn (hi pins s σ H _ I h) fun xv s1 h1 => thn h1 fun itv s2 h2 => ?_)
  obtain ⟨it, fp, tn, J, H2, e, I2, T, st2, f2, W, ⟨m0, w0⟩, turn⟩ := h2
  subst e
  refine wpAny_newObj_type (wpAny_newFunctionEnv hcell (by intro y hy; simp at hy) (fun h₁ hns₁ hsb₁ => ?_) hkind)
  dsimp only at hns₁ hsb₁ ⊢
  generalize hH2 : s2.heap.push { cls := .type "list", dict := none, data := .seq ([] : List Value).toArray } = HH at hns₁ hsb₁ ⊢
  have hC : HH.objs.size = s2.heap.objs.size + 1 := by rw [← hH2, Heap.size_push]
  have hDC : s2.heap.objs.size ≠ HH.objs.size := by rw [hC]; exact Nat.ne_of_lt (Nat.lt_succ_self _)
  have below : ∀ b, b < s2.heap.objs.size → b ≠ HH.objs.size ∧ b ≠ s2.heap.objs.size := fun b hb => ⟨by rw [hC]; exact Nat.ne_of_lt (Nat.lt_succ_of_lt hb), Nat.ne_of_lt hb⟩
  have old : ∀ b o, s2.heap.get? b = some o → h₁.get? b = some o := fun b o e => hsb₁.extBut b o (below b (Heap.lt_size e)).1 (Heap.get?_push_of_some _ (hH2 ▸ Heap.get?_push_of_some _ e))
  have hacc : h₁.get? s2.heap.objs.size = some (lobj [] 0) := hsb₁.extBut _ _ hDC (Heap.get?_push_of_some _ (hH2 ▸ Heap.get?_push_size _ rfl))
  have hfpo := T.obj 0 _ st2
  have hfplt : ∀ b ∈ fp, b < s2.heap.objs.size := fun b hb => by
    obtain ⟨o, e, _⟩ := hfpo b hb
    exact Heap.lt_size e
  have stl : ∀ b ∈ frs X.stack, b < s2.heap.objs.size := fun b hb => by
    obtain ⟨_, o, ho, _⟩ := I2.stack.mem hb
    exact Heap.lt_size ho
  have celt : ∀ y c, X.env.cells.lookup y = some c → c < s2.heap.objs.size := fun y c e => by
    obtain ⟨v, q⟩ := I2.cell y c e
    exact q.lt
  have hpf : ∀ p ∈ X.pn ++ pins, p.1 ∉ frs X.stack := fun p hp z => by
    obtain ⟨_, _, n1, n2, _⟩ := I2.pin p hp
    rcases List.mem_cons.mp (I2.stkSub _ z) with q | q
    · exact n1 q
    · exact n2 q
  -- the block's context
  have okX : (cxLC X scope cl HH.objs.size x s2 H2 fp (X.pn ++ pins)).Ok := by
    refine ⟨I2.ok.mod, hkind, I2.ok.glob, I2.ok.blt, ?_, fun y z c e1 e2 => I2.ok.inj y z c (hcl1 _ _ e1) (hcl1 _ _ e2), fun y hy => ?_, fun y c hf => (nomatch hf), I2.ok.hd, I2.ok.frames, .inl rfl, fun b hb => ?_, I2.bs, ?_, fun b o e hb => ?_, fun b hb => ?_, I2.stack, I2.stkFree⟩
    · show s2.heap.objs.size ≤ HH.objs.size
      rw [hC]; exact Nat.le_succ _
    · have hy' : (relabel scope X.env).names.lookup y = some .cell ∨ (relabel scope X.env).names.lookup y = some .free := hy
      rw [names_relabel] at hy'
      have : scope.names.lookup y = some .free := by
        cases q : scope.names.lookup y with
        | none => rw [q] at hy'; rcases hy' with z | z <;> cases z
        | some k =>
          have hm := PySem.mem_of_lookup q
          rw [q] at hy'
          have hk : gRel X.env y k = .cell ∨ gRel X.env y k = .free := by simpa using hy'
          unfold gRel at hk
          split at hk
          · rename_i c
            simp at c
            rw [c.1.1]
          · rcases hk with z | z
            · exact absurd z (hcell _ hm)
            · rw [z]
      exact hcl2 y (PySem.mem_of_lookup this)
    · refine ⟨?_, fun y c e z => (f2 b hb).2.2.2.2.1 y c (hcl1 _ _ e) z⟩
      exact (below b (hfplt b hb)).1
    · exact Nat.le_trans I2.ok.bsz I2.sz
    · have := (I2.bs b o e).2
      rcases (f2 b hb).2.2.2.1 with z | z
      · exact I2.ok.noex b o e z
      · exact absurd (Nat.lt_of_lt_of_le (Heap.lt_size (I2.ok.bs b o e).1) z) (Nat.lt_irrefl _)
    · intro z
      rcases List.mem_cons.mp (I2.stkSub _ z) with q | q
      · exact (f2 b hb).2.1 q
      · exact (f2 b hb).2.2.1 q
  have start : ∀ t, Inv (cxLC X scope cl HH.objs.size x s2 H2 fp (X.pn ++ pins)) [(s2.heap.objs.size, lobj [] 0)] (none :: σ) H2 { s2 with heap := h₁, toks := t } := fun t => by
    refine ⟨okX, rfl, I2.bare, Un.kept old, ⟨_, hns₁, fun i y v e1 e2 e3 => ?_⟩, fun y c e => ?_, I2.hok.fresh (by show s2.heap.objs.size ≤ HH.objs.size; rw [hC]; exact Nat.le_succ _), fun y c e => I2.freeC y c (hcl1 _ _ e), fun p hp => ?_, I2.hok.kept old, ?_⟩
    · cases i with
      | zero => cases e2
      | succ j =>
        have e1' : X.N[j]? = some y := e1
        have e2' : σ[j]? = some (some v) := e2
        have hyN : y ∈ X.N := List.mem_of_getElem? e1'
        have e3' : Vis (relabel scope X.env) y := e3
        unfold Vis at e3'
        rw [names_relabel] at e3'
        cases q : scope.names.lookup y with
        | none => rw [q] at e3'; rcases e3' with z | z | z <;> cases z
        | some k =>
          have hm := PySem.mem_of_lookup q
          rw [q] at e3'
          have kf : k = .free := by
            have hk : gRel X.env y k = .local ∨ gRel X.env y k = .cell ∨ gRel X.env y k = .free := by simpa using e3'
            unfold gRel at hk
            split at hk
            · rename_i c; simp at c; exact c.1.1
            · rcases hk with z | z | z
              · exact absurd (q.trans (congrArg some z)) (hN y hyN)
              · exact absurd z (hcell _ hm)
              · exact z
          subst kf
          have kc := hfree _ hm rfl
          obtain ⟨m, hn, hl⟩ := I2.loc
          obtain ⟨u, ru, lk⟩ := hl j y v e1' e2' (.inr (.inl kc))
          refine ⟨u, ru, ?_⟩
          rcases lk with ⟨z, _⟩ | ⟨_, c, ec, hcell'⟩
          · rw [kc] at z; cases z
          · obtain ⟨c', ec'⟩ := hcl2 y hm
            have : c' = c := by have z := hcl1 _ _ ec'; rw [ec] at z; exact (Option.some.inj z).symm
            subst this
            refine .inr ⟨.inl ?_, c', ec', ?_⟩
            · show (relabel scope X.env).names.lookup y = some .cell
              rw [names_relabel, q]
              show some (gRel X.env y .free) = _
              unfold gRel
              rw [I2.ok.kind, kc]; rfl
            · obtain ⟨o, ho, hd⟩ := hcell'
              exact ⟨o, old _ _ ho, hd⟩
    · obtain ⟨v, o, ho, hd⟩ := I2.cell y c (hcl1 _ _ e)
      exact ⟨v, o, old _ _ ho, hd⟩
    · rcases List.mem_append.mp hp with hp | hp
      · obtain ⟨a1, a2, a3, a4, a5⟩ := I2.pin p hp
        exact ⟨old _ _ a1, a2, (below _ (Heap.lt_size a1)).1, hpf p hp, a5⟩
      · have ep : p = (s2.heap.objs.size, lobj [] 0) := by simpa using hp
        subst ep
        exact ⟨hacc, I2.hok.fresh (Nat.le_refl _), hDC, fun z => absurd (stl _ z) (Nat.lt_irrefl _), fun v z => nomatch z⟩
    · show (none :: σ).length = (x :: X.N).length
      rw [List.length_cons, List.length_cons, I2.len]
  have fpo : ∀ {H' : Hp} {pl : List (Addr × Obj)}, (∀ b ∈ fp, H' b = none) → (∀ p ∈ pl, p.1 = s2.heap.objs.size) → ∀ b ∈ fp, FpOk (cxLC X scope cl HH.objs.size x s2 H2 fp (X.pn ++ pins)) pl H' b := fun hn hpl b hb => by
    obtain ⟨_, a2, a3, a4, a5, a6⟩ := f2 b hb
    refine ⟨hn b hb, (below b (hfplt b hb)).1, fun z => ?_, .inl hb, fun y c e z => a5 y c (hcl1 _ _ e) z, fun p hp z => ?_⟩
    · rcases List.mem_cons.mp (I2.stkSub _ z) with q | q
      · exact a2 q
      · exact a3 q
    · rcases List.mem_append.mp hp with hp | hp
      · exact a6 p hp z
      · have := hpl p hp
        rw [this] at z
        exact (below b (hfplt b hb)).2 z.symm
  have hnd' : (x :: X.N).Nodup := List.nodup_cons.mpr ⟨fun z => hN x z hx, hnd⟩
  have loop : ∀ t, codeAny (model X.prog X.w) X.A (.compLoop (.ListComp elt [⟨.Name x px, iter, ifs, 0⟩] scope pos) 0 (.ref it) (.ref s2.heap.objs.size) (compEnvC scope cl HH.objs.size X.env))
      (compPost (model X.prog X.w) X.A X.xe none (EP X pins σ Q) (.ref s2.heap.objs.size) HH.objs.size) { s2 with heap := h₁, toks := t } := fun t => by
    refine compLoop_own (fun n s' => ∃ i ys its k H', Inv (cxLC X scope cl HH.objs.size x s2 H2 fp (X.pn ++ pins)) [(s2.heap.objs.size, lobj its k)] (none :: σ) H' s' ∧ Vals ys its ∧ ys.length ≤ sizeLine ∧ tn i s'.heap ∧ (∀ b ∈ fp, H' b = none) ∧ W i n ys H') ?_ m0
      ⟨0, [], [], 0, H2, start t, .nil, Nat.zero_le _, T.keep _ _ _ st2 fun b _ o e => old b o e, fun b hb => (f2 b hb).1, w0⟩
    rintro n s3 ⟨i, ys, its, k, H3, I3, r3, z3, st3, fr3, w3⟩
    have hone : ∀ p ∈ [(s2.heap.objs.size, lobj its k)], p.1 = s2.heap.objs.size := fun p hp => by
      have : p = (s2.heap.objs.size, lobj its k) := by simpa using hp
      rw [this]
    rcases turn i n ys H3 w3 with ⟨stop, qn⟩ | ⟨go, zlt, NN, hNN, step⟩
    · refine thn (T.done (cxLC X scope cl HH.objs.size x s2 H2 fp (X.pn ++ pins)) rfl rfl rfl hc i _ s3 (none :: σ) H3 (fun _ _ => False) I3 (fpo fr3 hone) st3 stop) fun r s4 ⟨hr, I4⟩ => ?_
      subst hr
      obtain ⟨m, hm, _⟩ := I4.loc
      refine ⟨m, hm, fun h' sb => ?_⟩
      have pD := I4.pin (s2.heap.objs.size, lobj its k) (List.mem_append_right _ List.mem_cons_self)
      have gD : h'.get? s2.heap.objs.size = some (lobj its k) := (sb.2 _ hDC).trans pD.1
      refine ⟨.ref s2.heap.objs.size, upd H3 s2.heap.objs.size (.lst ys), I2.call' (ch := fp) (I4.os) (Un.late I4.base (fun b q e => I2.hok.lt e) (Nat.le_refl _) fun b hb => sb.2 b (below b hb).1) (fun b u e => ?_) I4.bare (fun b hb => ?_), rfl, qn _ pD.2.1⟩
      · by_cases hb : b = s2.heap.objs.size
        · subst hb
          rw [upd_same] at e
          cases e
          exact ⟨z3, its, k, r3, gD⟩
        · rw [upd_ne hb] at e
          refine (I4.hok b u e).stay (fun c v hcc q => (sb.2 c ?_).trans q) (fun c q => ?_) fun c xs q => ?_
          · rintro rfl
            have fr := I4.free
            rcases hcc with z | z
            · rw [← z] at e; rw [show (cxLC X scope cl HH.objs.size x s2 H2 fp (X.pn ++ pins)).env.locals = HH.objs.size from rfl] at fr; rw [fr] at e; cases e
            · rw [show (cxLC X scope cl HH.objs.size x s2 H2 fp (X.pn ++ pins)).env.locals = HH.objs.size from rfl] at fr; rw [fr] at z; cases z
          · rw [upd_ne (ne_of_none q pD.2.1)]; exact q
          · rw [upd_ne (ne_of_none q pD.2.1)]; exact q
      · obtain ⟨_, a2, _, a4, a5, a6⟩ := f2 b hb
        exact ⟨a4, a2, a5, a6⟩
    · refine thn (T.item (cxLC X scope cl HH.objs.size x s2 H2 fp (X.pn ++ pins)) rfl rfl rfl hc i _ s3 (none :: σ) H3 (fun _ _ => False) I3 (fpo fr3 hone) st3 go) fun r s4 ⟨u, hr, h4⟩ => ?_
      subst hr
      refine thn h4 fun _ s5 ⟨v, H5, I5, r5, y5, st5, fr5⟩ => ?_
      have I5' := I5.pinned (fpo fr5 hone) (T.obj _ _ st5)
      refine wpAny_assign_Name (store_ok (X := cxLC X scope cl HH.objs.size x s2 H2 fp (X.pn ++ pins)) (i := 0) I5' hnd' rfl (.inl (by show (relabel scope X.env).names.lookup x = _; rw [names_relabel, hx]; rfl)) r5 (fun s6 I6 => ?_) (.inr (by show (relabel scope X.env).names.lookup x = _; rw [names_relabel, hx]; rfl)))
      have I6' : Inv (cxLC X scope cl HH.objs.size x s2 H2 fp (X.pn ++ pins)) ([(s2.heap.objs.size, lobj its k)] ++ pinsAt fp s5.heap) (some v :: σ) H5 s6 := I6
      refine thn (ht cl HH.objs.size s2 H2 fp (X.pn ++ pins) _ s6 _ H5 _ I6' (step v H5 y5)) fun c s7 ⟨H7, I7, q7⟩ => ?_
      -- what the block's state says of the iterator and the list
      have again : ∀ {H9 : Hp} {s9 : Shared} {σ9 : St} {zs : List V} {jts : List Value} {k' : Nat}, Inv (cxLC X scope cl HH.objs.size x s2 H2 fp (X.pn ++ pins)) ([(s2.heap.objs.size, lobj jts k')] ++ pinsAt fp s5.heap) (some v :: σ) H9 s9 → Vals zs jts → zs.length ≤ sizeLine → NN zs H9 →
          ∃ m, m < n ∧ ∃ i ys its k H', Inv (cxLC X scope cl HH.objs.size x s2 H2 fp (X.pn ++ pins)) [(s2.heap.objs.size, lobj its k)] (none :: σ) H' s9 ∧ Vals ys its ∧ ys.length ≤ sizeLine ∧ tn i s9.heap ∧ (∀ b ∈ fp, H' b = none) ∧ W i m ys H' := fun {H9 s9 σ9 zs jts k'} I9 r9 z9 n9 => by
        obtain ⟨m', hm, w9⟩ := hNN zs H9 n9
        refine ⟨m', hm, i + 1, zs, jts, k', H9, (I9.unpinned.weak (σ' := none :: σ) rfl fun j v' e => ?_), r9, z9, T.keep _ _ _ st5 fun b hb o e => (I9.pin (b, o) (List.mem_append_right _ (List.mem_append_right _ (mem_pinsAt hb e)))).1, fun b hb => ?_, w9⟩
        · cases j with
          | zero => cases e
          | succ j => exact e
        · obtain ⟨o, e, d⟩ := T.obj _ _ st5 b hb
          exact (I9.pin (b, o) (List.mem_append_right _ (List.mem_append_right _ (mem_pinsAt hb e)))).2.1
      cases c with
      | false =>
        simp only [Bool.false_eq_true, if_false] at q7 ⊢
        exact again (σ9 := []) I7 r3 z3 q7
      | true =>
        simp only [if_true] at q7 ⊢
        refine thn (he cl HH.objs.size s2 H2 fp (X.pn ++ pins) _ s7 _ H7 _ I7 q7) fun u8 s8 ⟨y, H8, I8, r8, q8⟩ => ?_
        have pD := I8.pin (s2.heap.objs.size, lobj its k) (List.mem_append_right _ (List.mem_append_left _ List.mem_cons_self))
        refine append_at (hsz := by rw [List.size_toArray, ← r3.length]; exact z3) pD.1 fun h9 sb9 hD9 => ?_
        have e9 : ({ cls := .type "list", data := .seq (its.toArray.push u8) (k + 1) } : Obj) = lobj (its ++ [u8]) (k + 1) := by
          show _ = ({ cls := .type "list", data := .seq (its ++ [u8]).toArray (k + 1) } : Obj)
          rw [List.push_toArray]
        rw [e9] at hD9
        have Ia : Inv (cxLC X scope cl HH.objs.size x s2 H2 fp (X.pn ++ pins)) (pinsAt fp s5.heap) (some v :: σ) H8 s8 := I8.pins_of fun p hp => I8.pin p (List.mem_append_right _ (List.mem_append_right _ hp))
        have nfp : ∀ p ∈ pinsAt fp s5.heap, p.1 ≠ s2.heap.objs.size := fun p hp => (below _ (hfplt _ (of_pinsAt hp).1)).2
        have Ib : Inv (cxLC X scope cl HH.objs.size x s2 H2 fp (X.pn ++ pins)) (pinsAt fp s5.heap) (some v :: σ) H8 { s8 with heap := h9, toks := s8.toks } := by
          refine Ia.turned (it := s2.heap.objs.size) (fun b o hb e => (sb9.2 b hb).trans e) pD.2.1 pD.2.2.1 (.inr (Nat.le_refl _)) (fun y' c e z => absurd (celt _ _ (hcl1 _ _ e)) (by rw [z]; exact Nat.lt_irrefl _)) fun p hp => ?_
          rcases List.mem_append.mp hp with hp | hp
          · exact (below _ (Heap.lt_size (I2.pin p hp).1)).2
          · exact nfp p hp
        refine again (σ9 := []) (zs := ys ++ [y]) (jts := its ++ [u8]) (k' := k + 1) (Ib.pins_of fun p hp => ?_) (r3.append (.cons r8 .nil)) (by rw [List.length_append]; exact zlt) q8
        rcases List.mem_append.mp hp with hp | hp
        · have ep : p = (s2.heap.objs.size, lobj (its ++ [u8]) (k + 1)) := by simpa using hp
          subst ep
          exact ⟨hD9, pD.2.1, pD.2.2.1, pD.2.2.2.1, fun v z => nomatch z⟩
        · exact Ib.pin p (List.mem_append_right _ hp)
  exact codeAny_compStart_list (loop _) (T.self _ 0 _ _ _ (T.keep _ _ _ st2 fun b _ o e => old b o e) (loop _))
/-- the names of a comprehension's block, looked over -/
def lcOk (N : List Str) (names outer : List (Str × NameKind)) (x : Str) : Bool :=
  N.all (fun y => names.lookup y != some .local) && (names.lookup x == some .local && names.all fun y => (y.2 != .free || outer.lookup y.1 == some .cell) && (y.2 != .cell && (y.2 != .local || names.lookup y.1 == some .local)))
theorem pe_lcB {X : Cx} {x : Str} {px : Pos} {iter elt : Expr} {ifs : List Expr} {scope : Scope} {pos : Pos} {wi : TI} {tc : TT} {te : TE} (hc : X.calm = true) (hnd : X.N.Nodup) (hi : PI X (.Name x px) iter wi)
    (ht : ∀ cl C s0 H0 fp pn, PTs (cxLC X scope cl C x s0 H0 fp pn) ifs tc) (he : ∀ cl C s0 H0 fp pn, PE (cxLC X scope cl C x s0 H0 fp pn) elt te) (hok : lcOk X.N scope.names X.env.scope.names x = true) (hkind : scope.kind = .function := by rfl)
    (hs : ∀ x, foldedSetIterable iter X.env x = pure x := by intro _; rfl) : PE X (.ListComp elt [⟨.Name x px, iter, ifs, 0⟩] scope pos) (tLC wi tc te) := by
  unfold lcOk at hok
  rw [Bool.and_eq_true, Bool.and_eq_true, List.all_eq_true, List.all_eq_true] at hok
  obtain ⟨h1, h2, h3⟩ := hok
  refine pe_lc hc hnd hi ht he (fun y hy => ?_) (by simpa using h2) (fun y hy e => ?_) (fun y hy => ?_) (fun y hy e => ?_) hkind hs
  · simpa using h1 y hy
  · have := h3 y hy
    rw [e] at this
    simp at this
    exact this
  · have := h3 y hy
    intro e
    rw [e] at this
    simp at this
  · have := h3 y hy
    rw [e] at this
    simpa using this
theorem lc_range {lo : Int} {n : Nat} {tc : TT} {te : TE} {σ : St} {H : Hp} {Q : VK} (Pv : Nat → List V → Hp → Prop) (h0 : Pv 0 [] H) (hz : n ≤ 1000) (hl : ∀ i ys H, Pv i ys H → ys.length ≤ i)
    (hs : ∀ i ys H, i < n → Pv i ys H → tc (some (.int (lo + i)) :: σ) H fun c H2 => if c = true then te (some (.int (lo + i)) :: σ) H2 fun y H3 => Pv (i + 1) (ys ++ [y]) H3 else Pv (i + 1) ys H2)
    (hd : ∀ ys H, Pv n ys H → ∀ p, H p = none → Q (.ref p) (upd H p (.lst ys))) : LCw (Itr lo n) tc te σ H Q := by
  refine ⟨fun i m ys H => m = n - i ∧ i ≤ n ∧ Pv i ys H, ⟨n, by simp, Nat.zero_le _, h0⟩, ?_⟩
  rintro i m ys H ⟨rfl, hi, p⟩
  by_cases hlt : i < n
  · refine .inr ⟨hlt, small1000 (by have := hl i ys H p; omega), Pv (i + 1), fun zs H' p' => ⟨n - (i + 1), by omega, rfl, hlt, p'⟩, fun x H' y => ?_⟩
    obtain ⟨e1, e2⟩ := y
    subst e1 e2
    exact hs i ys _ hlt p
  · have e : i = n := by omega
    subst e
    exact .inl ⟨Nat.le_refl _, hd ys H p⟩
theorem lc_list {K : PySem.W.Frag} {a : Addr} {xs : List V} {tc : TT} {te : TE} {σ : St} {H : Hp} {Q : VK} (Pv : Nat → List V → Hp → Prop) (h0 : Pv 0 [] H) (hz : xs.length ≤ 1000) (hl : ∀ i ys H, Pv i ys H → ys.length ≤ i) (hk : ∀ i ys H, i ≤ xs.length → Pv i ys H → SqL K H a xs)
    (hs : ∀ i x ys H, xs[i]? = some x → Pv i ys H → tc (some x :: σ) H fun c H2 => if c = true then te (some x :: σ) H2 fun y H3 => Pv (i + 1) (ys ++ [y]) H3 else Pv (i + 1) ys H2)
    (hd : ∀ ys H, Pv xs.length ys H → ∀ p, H p = none → Q (.ref p) (upd H p (.lst ys))) : LCw (Itl K a) tc te σ H Q := by
  refine ⟨fun i m ys H => m = xs.length - i ∧ i ≤ xs.length ∧ Pv i ys H, ⟨xs.length, by simp, Nat.zero_le _, h0⟩, ?_⟩
  rintro i m ys H ⟨rfl, hi, p⟩
  have q := hk i ys H hi p
  by_cases hlt : i < xs.length
  · refine .inr ⟨⟨xs, xs[i], q, by simp [hlt]⟩, small1000 (by have := hl i ys H p; omega), Pv (i + 1), fun zs H' p' => ⟨xs.length - (i + 1), by omega, rfl, hlt, p'⟩, fun x H' y => ?_⟩
    obtain ⟨e, y⟩ := y
    subst e
    exact hs i x ys _ (y xs q) p
  · have e : i = xs.length := by omega
    subst e
    exact .inl ⟨⟨xs, q, Nat.le_refl _⟩, hd ys H p⟩
theorem lc_rangeY {lo : Int} {n : Nat} {te : TE} {σ : St} {H : Hp} {Q : VK} (Pv : Nat → List V → Hp → Prop) (h0 : Pv 0 [] H) (hz : n ≤ 1000) (hl : ∀ i ys H, Pv i ys H → ys.length ≤ i)
    (hs : ∀ i ys H, i < n → Pv i ys H → te (some (.int (lo + i)) :: σ) H fun y H3 => Pv (i + 1) (ys ++ [y]) H3)
    (hd : ∀ ys H, Pv n ys H → ∀ p, H p = none → Q (.ref p) (upd H p (.lst ys))) : LCw (Itr lo n) tYes te σ H Q :=
  lc_range Pv h0 hz hl (fun i ys H hi p => iteT (B := Pv (i + 1) ys H) (hs i ys H hi p)) hd
theorem lc_listY {K : PySem.W.Frag} {a : Addr} {xs : List V} {te : TE} {σ : St} {H : Hp} {Q : VK} (Pv : Nat → List V → Hp → Prop) (h0 : Pv 0 [] H) (hz : xs.length ≤ 1000) (hl : ∀ i ys H, Pv i ys H → ys.length ≤ i) (hk : ∀ i ys H, i ≤ xs.length → Pv i ys H → SqL K H a xs)
    (hs : ∀ i x ys H, xs[i]? = some x → Pv i ys H → te (some x :: σ) H fun y H3 => Pv (i + 1) (ys ++ [y]) H3)
    (hd : ∀ ys H, Pv xs.length ys H → ∀ p, H p = none → Q (.ref p) (upd H p (.lst ys))) : LCw (Itl K a) tYes te σ H Q :=
  lc_list Pv h0 hz hl hk (fun i x ys H hi p => iteT (B := Pv (i + 1) ys H) (hs i x ys H hi p)) hd
end L2
set_option Elab.async false
set_option maxHeartbeats 4000000
namespace L2
open PySem PySem.Spec PyProof.Rows
structure DefOk (P : Program) (w : World) (K : PySem.W.Frag) (mg : Str → Option Value) (base : Heap) (CX : CXT) (x : Str) (k : Nat) (ps : List Str) (sp : Sp) : Prop where
  ex : ∃ f fd, FnOk P w K mg base CX k f fd ps sp ∧ Binds K fd ps [] ∧ PySem.W.keepIn K (.ref f) = true ∧ mg x = some (.ref f)
structure MethOk (P : Program) (w : World) (K : PySem.W.Frag) (mg : Str → Option Value) (base : Heap) (CX : CXT) (C : Addr) (m : Str) (k : Nat) (ps : List Str) (sp : Sp) : Prop where
  cls : Cls K C
  ex : ∃ f fd, FnOk P w K mg base CX k f fd ps sp ∧ Binds K fd ps [] ∧ Meth K C m f
structure ClsOk (P : Program) (w : World) (K : PySem.W.Frag) (mg : Str → Option Value) (base : Heap) (CX : CXT) (x : Str) (C : Addr) (k : Nat) (ps : List Str) (sp : Sp) : Prop where
  ex : ∃ f fd, FnOk P w K mg base CX k f fd ps sp ∧ Binds K fd ps [] ∧ Mk K C f ∧ mg x = some (.ref C)
section
variable {X : Cx} {CX : CXT} {j k : Nat} {C : Addr} {ps : List Str} {sp : Sp} {E : XK} {x m : Str} {p pos apos : Pos} {e o : Expr} {es : List Expr} {ta : TE} {t : TA}
theorem pe_def (D : DefOk X.prog X.w X.K X.mg X.base CX x j ps sp) (hr : Room k X.A) (hx : Passes CX X E) (ha : PA X (e :: es) t) (hjk : j ≤ k := by decide) (hg : Gl X x := by rfl) (hdb : (x == ("__debug__" : Str)) = false := by decide)
    (he : starEach (e :: es) X.env = (false, eval e X.env) :: starEach es X.env := by rfl) (hpl : (backTo pos (starEach es X.env)).any (·.1) = false := by rfl) : PE X (.Call (.Name x p) (e :: es) [] pos) (tCall sp [] E t) := by
  obtain ⟨f, fd, h1, h2, h3, h4⟩ := D.ex
  exact pe_call h1 (hr.mono hjk) hg h4 h3 h2 .nil hx ha hdb he hpl
theorem pe_me0 {pl : Sem Bool} (ho : PE X o ta) (M : MethOk X.prog X.w X.K X.mg X.base CX C m j ps sp) (hr : Room k X.A) (hx : Passes CX X E) (hjk : j ≤ k := by decide)
    (ht : eval (.Call (.Attribute o m apos) [] [] pos) X.env = (do
      let ov ← eval o X.env
      standAt apos.atName
      let (f, first) ← holding [ov] (getMethod ov m pl)
      callWith pos f first (backTo pos (starEach [] X.env)) (backToKw pos (keywordEach [] X.env))) := by rfl) :
    PE X (.Call (.Attribute o m apos) [] [] pos) (tMeth C m sp [] E ta tNil) := by
  obtain ⟨f, fd, h1, h2, h3⟩ := M.ex
  exact pe_meth0 ho M.cls h3 h1 (hr.mono hjk) h2 .nil hx ht
theorem pe_cls (D : ClsOk X.prog X.w X.K X.mg X.base CX x C j ps sp) (hr : Room k X.A) (hx : Passes CX X E) (ha : PA X (e :: es) t) (hjk : j + 1 ≤ k := by decide) (hg : Gl X x := by rfl) (hdb : (x == ("__debug__" : Str)) = false := by decide)
    (he : starEach (e :: es) X.env = (false, eval e X.env) :: starEach es X.env := by rfl) (hpl : (backTo pos (starEach es X.env)).any (·.1) = false := by rfl) : PE X (.Call (.Name x p) (e :: es) [] pos) (tMake C sp [] E t) := by
  obtain ⟨f, fd, h1, h2, h3, h4⟩ := D.ex
  exact pe_make h3 h1 (hr.mono hjk) hg h4 h2 .nil hx ha hdb he hpl
/-- a number that stands at the top -/
theorem pe_const {i : Int} {tk : Tok} (hm : X.mg x = some (.int i tk)) (hg : Gl X x := by rfl) (hd : (x == ("__debug__" : Str)) = false := by decide) : PE X (.Name x pos) (tC (.int i)) := pe_glob hg hm ⟨tk, rfl⟩ hd
/-- a class as a value -/
theorem pe_cl (hm : X.mg x = some (.ref C)) (hg : Gl X x := by rfl) (hd : (x == ("__debug__" : Str)) = false := by decide) : PE X (.Name x pos) (tC (.ref C)) := pe_glob hg hm rfl hd
theorem pe_bty {T : String} (hm : X.mg x = none) (hv : bootBuiltins x = some (.type T)) (hg : Gl X x := by rfl) (hn : x ≠ "__name__" := by decide) (hd : (x == ("__debug__" : Str)) = false := by decide) : PE X (.Name x pos) (tC (.ty T)) := pe_bltn hg hm hv rfl hn hd
end
def clsV : V → Option Value
  | .ref a => some (.ref a)
  | .ty n => some (.type n)
  | _ => none
theorem clsV_rel {c : V} {cv cu : Value} (h : clsV c = some cv) (r : RelV c cu) : cu = cv := by
  cases c with
  | ref a => cases h; exact r
  | ty n => cases h; exact r
  | _ => cases h
section
variable {X : Cx}
theorem call_isi : CallR X (.builtin "isinstance") (fun xs H Q => ∃ x c t cv b, xs = [x, c] ∧ clsV c = some cv ∧ TyOf X.K H x t ∧ PySem.W.kitOne X.K t cv = some b ∧ Q (.bl b) H) := by
  intro pins s σ H xs us Q I r h
  obtain ⟨x, c, t, cv, b, rfl, rc, ty, e, q⟩ := h
  obtain ⟨u, cu, rfl, ru, rcu⟩ := vals2 r
  obtain rfl := clsV_rel rc rcu
  exact isinst_ok I ru ty e fun tk => ⟨.bl b, H, I.tok tk, rfl, q⟩
/-- what == says: flat values, and lists of what it says of (n deep) -/
inductive DEq (K : PySem.W.Frag) (H : Hp) : Nat → V → V → Bool → Prop where
  | flat {n : Nat} {x y : V} (hx : flatV x = true) (hy : flatV y = true) : DEq K H n x y (eqV x y)
  | same {n : Nat} {a : Addr} : DEq K H n (.ref a) (.ref a) true
  | lists {n : Nat} {a b : Addr} {xs ys : List V} (e : Nat → Bool) (ne : a ≠ b) (ha : SqL K H a xs) (hb : SqL K H b ys) (hl : xs.length = ys.length)
      (he : ∀ (i : Nat) x y, xs[i]? = some x → ys[i]? = some y → DEq K H n x y (e i)) : DEq K H (n + 1) (.ref a) (.ref b) ((List.range xs.length).all e)
  | lens {n : Nat} {a b : Addr} {xs ys : List V} (ne : a ≠ b) (ha : SqL K H a xs) (hb : SqL K H b ys) (hl : xs.length ≠ ys.length) : DEq K H n (.ref a) (.ref b) false
theorem DEq.eqAt {pins : List (Addr × Obj)} {σ : St} {H : Hp} {s : Shared} (I : Inv X pins σ H s) {n : Nat} {x y : V} {b : Bool} (d : DEq X.K H n x y b) : ∀ {A : Around} {u v : Value}, RelV x u → RelV y v → A.units + n < cLine → SeqAt.EqAt A s u v b := by
  induction d with
  | flat hx hy => intro A u v ru rv _; exact eqAt_V ru rv hx hy
  | same =>
    intro A u v ru rv _
    cases ru; cases rv
    exact SeqAt.EqAt.same _
  | @lists n a b xs ys e ne ha hb hl he ih =>
    intro A u v ru rv hu
    cases ru; cases rv
    obtain ⟨its, r1, p1, z1⟩ := I.list ha
    obtain ⟨jts, r2, p2, z2⟩ := I.list hb
    have l1 := r1.length
    have l2 := r2.length
    have hsz : its.toArray.size = jts.toArray.size := by simp only [List.size_toArray]; omega
    have := SeqAt.RcAt.lists (A := A) (e := e) p1.isList p2.isList hsz (by omega) fun j h1 h2 => by
      have j1 : j < xs.length := by rw [l1]; simpa using h1
      have j2 : j < ys.length := by rw [l2]; simpa using h2
      obtain ⟨u1, e1, q1⟩ := r1.get (List.getElem?_eq_getElem j1)
      obtain ⟨u2, e2, q2⟩ := r2.get (List.getElem?_eq_getElem j2)
      have g1 : its.toArray[j] = u1 := by have := List.getElem?_eq_some_iff.mp e1; obtain ⟨_, z⟩ := this; simpa using z
      have g2 : jts.toArray[j] = u2 := by have := List.getElem?_eq_some_iff.mp e2; obtain ⟨_, z⟩ := this; simpa using z
      rw [g1, g2]
      exact ih j xs[j] ys[j] (List.getElem?_eq_getElem j1) (List.getElem?_eq_getElem j2) q1 q2 (by show A.units + 1 + n < cLine; omega)
    rw [List.size_toArray, ← l1] at this
    exact SeqAt.EqAt.of_refs ne this
  | @lens n a b xs ys ne ha hb hl =>
    intro A u v ru rv hu
    cases ru; cases rv
    obtain ⟨its, r1, p1, z1⟩ := I.list ha
    obtain ⟨jts, r2, p2, z2⟩ := I.list hb
    have l1 := r1.length
    have l2 := r2.length
    exact SeqAt.EqAt.of_refs ne (SeqAt.RcAt.lists_lengths p1.isList p2.isList (by simp only [List.size_toArray, bne_iff_ne]; omega) (by omega))
/-- xs == ys, xs != ys of two lists -/
def rEqL (K : PySem.W.Frag) (neg : Bool) : R2 := fun x y H Q => ∃ a b xs ys, x = .ref a ∧ y = .ref b ∧ SqL K H a xs ∧ SqL K H b ys ∧
  ((xs.length ≠ ys.length ∧ Q (.bl neg) H) ∨ (xs.length = ys.length ∧ ∃ e : Nat → Bool, (∀ (i : Nat) x y, xs[i]? = some x → ys[i]? = some y → DEq K H 4 x y (e i)) ∧ Q (.bl (if neg then !(List.range xs.length).all e else (List.range xs.length).all e)) H))
theorem eql_items {pins : List (Addr × Obj)} {σ : St} {H : Hp} {s : Shared} (I : Inv X pins σ H s) {A : Around} {xs ys : List V} {its jts : List Value} {e : Nat → Bool} (r1 : Vals xs its) (r2 : Vals ys jts) (hu : A.units + 5 < cLine)
    (he : ∀ (i : Nat) x y, xs[i]? = some x → ys[i]? = some y → DEq X.K H 4 x y (e i)) : ∀ j (h1 : j < its.toArray.size) (h2 : j < jts.toArray.size), SeqAt.EqAt A.in1 s its.toArray[j] jts.toArray[j] (e j) := fun j h1 h2 => by
  have j1 : j < xs.length := by rw [r1.length]; simpa using h1
  have j2 : j < ys.length := by rw [r2.length]; simpa using h2
  obtain ⟨u1, e1, q1⟩ := r1.get (List.getElem?_eq_getElem j1)
  obtain ⟨u2, e2, q2⟩ := r2.get (List.getElem?_eq_getElem j2)
  have g1 : its.toArray[j] = u1 := by have := List.getElem?_eq_some_iff.mp e1; obtain ⟨_, z⟩ := this; simpa using z
  have g2 : jts.toArray[j] = u2 := by have := List.getElem?_eq_some_iff.mp e2; obtain ⟨_, z⟩ := this; simpa using z
  rw [g1, g2]
  exact (he j xs[j] ys[j] (List.getElem?_eq_getElem j1) (List.getElem?_eq_getElem j2)).eqAt I q1 q2 (by show A.units + 1 + 4 < cLine; omega)
theorem op_eqL (hu : X.A.units + 5 < cLine) : OpR X (compareOp .Eq) (rEqL X.K false) := by
  intro pins s σ H x y v u Q I rx ry h
  obtain ⟨a, b, xs, ys, rfl, rfl, ha, hb, h⟩ := h
  cases rx; cases ry
  obtain ⟨its, r1, p1, z1⟩ := I.list ha
  obtain ⟨jts, r2, p2, z2⟩ := I.list hb
  have l1 := r1.length
  have l2 := r2.length
  rcases h with ⟨hl, q⟩ | ⟨hl, e, he, q⟩
  · exact SeqAt.eq_list_lengthsAt p1.isList p2.isList (by simp only [List.size_toArray, bne_iff_ne]; omega) (by omega) ⟨.bl false, H, I, rfl, q⟩
  · refine SeqAt.eq_listAt (e := e) p1.isList p2.isList (by simp only [List.size_toArray]; omega) (by omega) (eql_items I r1 r2 hu he) ⟨.bl _, H, I, rfl, ?_⟩
    rw [List.size_toArray, ← l1]
    exact q
end
section
variable {X : Cx} {K : PySem.W.Frag}
theorem ix_listK (h : X.K = K := by rfl) : IxR X (rIxL K) := by subst h; exact ix_list
end
end L2
set_option Elab.async false
set_option maxHeartbeats 4000000
namespace L2
open PySem
section
variable {prog : Program} {w : World} {A : Around} {E : Value → Shared → Prop} {s : Shared}
/-- one step of an enumerate over a list, whatever number it counts from -/
theorem en_step {n it l : Addr} {i : Nat} {c : Int} {its : Array Value} {v old : Value} {Q : Value → Shared → Prop}
    (hn : IsEnum s.heap n it c old) (hi : s.heap.IsListIter it l i) (hl : s.heap.IsList l its) (hv : its[i]? = some v) (ne : n ≠ it)
    (k : ∀ g, IsEnumOut g n it (c + 1) v s.heap.objs.size → g.IsListIter it l (i + 1) → g.get? s.heap.objs.size = some { cls := .type "tuple", data := .seq #[.int c s.toks, v] } →
      g.objs.size = s.heap.objs.size + 1 → (∀ b o, b ≠ n → b ≠ it → s.heap.get? b = some o → g.get? b = some o) → Q (.ref s.heap.objs.size) { s with heap := g, toks := s.toks + 1 }) :
    wpAny (model prog w) A (Builtin.«enumerate.__next__» ⟨[.ref n], []⟩) (fun fin s' => ∃ r, fin = .done (.ret r) ∧ Q r s') E s := by
  obtain ⟨hp, gn, dr, tk, os⟩ := s
  show wpAny _ _ (field (.ref n) 2 >>= _) _ _ _
  refine wpAny_bind (wpAny_field hn rfl (x := .ref it) rfl (wpAny_bind (wpAny_nextOf_list_item hi hl hv fun g1 hi1 sb1 => ?_)))
  have sb1' : Heap.SameBut it hp g1 := sb1
  have hn1 : IsEnum g1 n it c old := (sb1'.2 n ne).trans hn
  show wpAny _ _ (field (.ref n) 3 >>= _) _ _ ⟨g1, gn, dr, tk, os⟩
  refine wpAny_bind (wpAny_field hn1 rfl (x := rawInt c) rfl ?_)
  show wpAny _ _ (field (.ref n) 4 >>= _) _ _ ⟨g1, gn, dr, tk, os⟩
  refine wpAny_bind (wpAny_field hn1 rfl (x := .none) rfl ?_)
  show wpAny _ _ (mkInt c >>= _) _ _ ⟨g1, gn, dr, tk, os⟩
  refine wpAny_bind (wpAny_mkInt ?_)
  show wpAny _ _ (setField (.ref n) 3 (rawInt (c + 1)) >>= _) _ _ ⟨g1, gn, dr, tk + 1, os⟩
  refine wpAny_bind (wpAny_setField_rec hn1 (by simp) fun g2 hn2 sb2 => ?_)
  have sb2' : Heap.SameBut n g1 g2 := sb2
  have hn2' : IsEnum g2 n it (c + 1) old := hn2
  show wpAny _ _ (setField (.ref n) 4 .none >>= _) _ _ ⟨g2, gn, dr, tk + 1, os⟩
  refine wpAny_bind (wpAny_setField_rec hn2' (by simp) fun g3 hn3 sb3 => ?_)
  have sb3' : Heap.SameBut n g2 g3 := sb3
  have hn3' : IsEnum g3 n it (c + 1) old := hn3
  show wpAny _ _ (newTuple [.int c tk, v] >>= _) _ _ ⟨g3, gn, dr, tk + 1, os⟩
  refine wpAny_bind (wpAny_newTuple ?_)
  have hn4 : IsEnum (g3.push { cls := .type "tuple", data := .seq #[.int c tk, v] }) n it (c + 1) old := Heap.get?_push_of_some _ hn3'
  have z3 : g3.objs.size = hp.objs.size := by rw [sb3'.1, sb2'.1, sb1'.1]
  have nlt : n < hp.objs.size := Heap.lt_size hn
  generalize q4 : g3.push { cls := .type "tuple", data := .seq #[.int c tk, v] } = g4 at hn4
  have t4 : g4.get? hp.objs.size = some { cls := .type "tuple", data := .seq #[.int c tk, v] } := by rw [← q4, ← z3]; exact Heap.get?_push_size _ rfl
  have z4 : g4.objs.size = hp.objs.size + 1 := by rw [← q4, Heap.size_push, z3]
  have k4 : ∀ b o, b ≠ n → b ≠ it → hp.get? b = some o → g4.get? b = some o := fun b o b1 b2 e => by
    rw [← q4]; exact Heap.get?_push_of_some _ (sb3'.extBut b o b1 (sb2'.extBut b o b1 (sb1'.extBut b o b2 e)))
  have i4 : g4.IsListIter it l (i + 1) := by
    rw [← q4]
    obtain ⟨o, ho, r⟩ := (hi1.extBut sb2'.extBut (Ne.symm ne)).extBut sb3'.extBut (Ne.symm ne)
    exact ⟨o, Heap.get?_push_of_some _ ho, r⟩
  show wpAny _ _ (Builtin.SmallTypes.ownedTupleIsFree (.ref n) >>= _) _ _ ⟨g4, gn, dr, tk + 1, os⟩
  rw [z3]
  clear q4 hn3 hn3' sb3 sb3' hn2 hn2' sb2 sb2' hn1 sb1 sb1' hi1 z3 g3 g2 g1
  unfold Builtin.SmallTypes.ownedTupleIsFree
  refine wpAny_bind (wpAny_bind (wpAny_field hn4 rfl (x := .none) rfl (wpAny_pure ?_)))
  simp only [if_true]
  refine wpAny_bind (wpAny_rule (wpAny_bind (wpAny_field hn4 rfl (x := old) rfl (wpAny_bind (wpAny_setField_rec hn4 (by simp) fun g5 hn5 sb5 => ?_)))))
  have sb5' : Heap.SameBut n g4 g5 := sb5
  have hn5' : IsEnum g5 n it (c + 1) v := hn5
  show wpAny _ _ (Builtin.SmallTypes.ownedTupleHandOut (.ref n) (.ref hp.objs.size) >>= _) _ _ ⟨g5, gn, dr, tk + 1, os⟩
  unfold Builtin.SmallTypes.ownedTupleHandOut
  refine wpAny_bind (wpAny_bind (wpAny_setField_rec hn5' (by simp) fun g6 hn6 sb6 => ?_))
  have sb6' : Heap.SameBut n g5 g6 := sb6
  have hn6' : IsEnumOut g6 n it (c + 1) v hp.objs.size := hn6
  refine wpAny_setField_rec hn6' (by simp) fun g7 hn7 sb7 => ?_
  have sb7' : Heap.SameBut n g6 g7 := sb7
  refine wpAny_bind (wpAny_letGo (wpAny_pure ⟨_, rfl, k g7 hn7 ?_ ?_ ?_ ?_⟩))
  · exact ((i4.extBut sb5'.extBut (Ne.symm ne)).extBut sb6'.extBut (Ne.symm ne)).extBut sb7'.extBut (Ne.symm ne)
  · exact sb7'.extBut _ _ (Nat.ne_of_gt nlt) (sb6'.extBut _ _ (Nat.ne_of_gt nlt) (sb5'.extBut _ _ (Nat.ne_of_gt nlt) t4))
  · rw [sb7'.1, sb6'.1, sb5'.1, z4]
  · exact fun b o b1 b2 e => sb7'.extBut b o b1 (sb6'.extBut b o b1 (sb5'.extBut b o b1 (k4 b o b1 b2 e)))
theorem en_item {n it l : Addr} {i : Nat} {c : Int} {its : Array Value} {v old : Value} {Q : Option Value → Shared → Prop}
    (hn : IsEnum s.heap n it c old) (hi : s.heap.IsListIter it l i) (hl : s.heap.IsList l its) (hv : its[i]? = some v) (ne : n ≠ it)
    (k : ∀ g, IsEnumOut g n it (c + 1) v s.heap.objs.size → g.IsListIter it l (i + 1) → g.get? s.heap.objs.size = some { cls := .type "tuple", data := .seq #[.int c s.toks, v] } →
      g.objs.size = s.heap.objs.size + 1 → (∀ b o, b ≠ n → b ≠ it → s.heap.get? b = some o → g.get? b = some o) → Q (some (.ref s.heap.objs.size)) { s with heap := g, toks := s.toks + 1 }) :
    wpAny (model prog w) A (pyNext (.ref n)) Q E s := by
  have ty : s.TypeIs (.ref n) "enumerate" := ⟨_, hn, rfl⟩
  unfold pyNext
  refine wpAny_bind (wpAny_attempt (wpAny_callSpecial?_slot (name := Str.ofString "__next__") ty F.slot_enumerate_next (wpAny_call_entry F.slot_enumerate_next ty F.entry_enumerate_next ?_ (F.args_enumerate_next_1 _))))
  exact en_step hn hi hl hv ne fun g a b d e f => wpAny_pure (k g a b d e f)
theorem en_end {n it l : Addr} {i : Nat} {c : Int} {its : Array Value} {old : Value} {Q : Option Value → Shared → Prop} (hh : A.handled = none)
    (hn : IsEnum s.heap n it c old) (hi : s.heap.IsListIter it l i) (hl : s.heap.IsList l its) (hv : its[i]? = none) (k : ∀ g, Heap.ExtBut it s.heap g → Q none { s with heap := g }) : wpAny (model prog w) A (pyNext (.ref n)) Q E s := by
  have ty : s.TypeIs (.ref n) "enumerate" := ⟨_, hn, rfl⟩
  unfold pyNext
  refine wpAny_bind (wpAny_attempt (wpAny_callSpecial?_slot (name := Str.ofString "__next__") ty F.slot_enumerate_next (wpAny_call_entry F.slot_enumerate_next ty F.entry_enumerate_next ?_ (F.args_enumerate_next_1 _))))
  show wpAny _ _ (field (.ref n) 2 >>= _) _ _ _
  refine wpAny_bind (wpAny_field hn rfl (x := .ref it) rfl (wpAny_bind (wpAny_nextOf_list_end hh hi hl hv fun g x eb hx => ?_)))
  obtain ⟨o, ho, hc⟩ := hx
  exact wpAny_bind (wpAny_isInstance (T := "StopIteration") (b := true) ⟨o, ho, hc⟩ isSubtype_stop (wpAny_pure (k _ eb)))
/-- enumerate(xs, start=c) -/
theorem en_new (l : Addr) (its : Array Value) (k : Nat) (c : Int) (t : Tok) (hc : -(2 ^ 62) ≤ c ∧ c < 2 ^ 62) :
    Meets (Builtin.«enumerate.__new__» ⟨[.type "enumerate", .ref l], [("start", .int c t)]⟩) (fun _ R s => s.heap.get? l = some { cls := .type "list", dict := none, data := .seq its k, slots := #[] } ∧
      R (.ok (.ret (.ref (s.heap.push { cls := .type "list_iterator", data := .fields #[.ref l, .int 0 0] }).objs.size)))
        { s with heap := (s.heap.push { cls := .type "list_iterator", data := .fields #[.ref l, .int 0 0] }).push { cls := .type "enumerate", data := .fields #[.none, .bool false, .ref s.heap.objs.size, rawInt c, .none, .none] } }) :=
  .of_wp fun prog w A R s h => by
    obtain ⟨hp, g, d, tk, os⟩ := s; obtain ⟨hl, h⟩ := h
    have f1 := sub_enumerate
    have hL : Heap.IsList (Shared.heap ⟨hp, g, d, tk, os⟩) l its := ⟨_, hl, rfl, k, rfl⟩
    wp_walk using AutoSeq1.wpAny_loadPart' hl
    have ff : Builtin.SmallTypes.fitsIndex c = true := by
      unfold Builtin.SmallTypes.fitsIndex; simp; omega
    refine wpAny_stack_any fun st => wpAny_pure ?_
    split
    · rename_i cc _ _ _ _ _
      cases (cc == Value.type "enumerate")
      · wp_walk using AutoSeq1.wpAny_loadPart' hl, wpAny_pyIter_list hL
        exact ⟨_, rfl, h⟩
      · wp_walk using AutoSeq1.wpAny_loadPart' hl, wpAny_pyIter_list hL
        exact ⟨_, rfl, h⟩
    · wp_walk using AutoSeq1.wpAny_loadPart' hl, wpAny_pyIter_list hL
      exact ⟨_, rfl, h⟩
end
end L2
set_option Elab.async false
set_option maxHeartbeats 4000000
set_option maxRecDepth 100000
namespace L2
open PySem
section
variable {prog : Program} {w : World} {A : Around} {E : Value → Shared → Prop} {s : Shared}
theorem start_check (l : Addr) (c : Int) (t : Tok) : checkTypeCall "enumerate" ⟨[.ref l], [("start", .int c t)]⟩ = pure () := by kernel_rfl
theorem start_new (l : Addr) (c : Int) (t : Tok) : checkBuiltinCall "enumerate.__new__" ⟨[.type "enumerate", .ref l], [("start", .int c t)]⟩ = pure () := by kernel_rfl
theorem start_init (o : Value) (l : Addr) (c : Int) (t : Tok) : argsOk "object.__init__" ⟨[o, .ref l], [("start", .int c t)]⟩ := by kernel_rfl
theorem callType_named {T newId initId : String} {Bn Bi : Builtin} {args : List Value} {kw : List (Str × Value)} {S : Spec} {Q R : Value → Shared → Prop} (ft : TypeCalled T newId initId)
    (h1 : checkTypeCall T ⟨args, kw⟩ = pure ()) (h2 : checkBuiltinCall newId ⟨.type T :: args, kw⟩ = pure ())
    (eN : entryFor table newId = some Bn) (eI : entryFor table initId = some Bi) (g : Meets (Bn ⟨.type T :: args, kw⟩) S) (h : S A.in1 (wants R E) s)
    (k : ∀ o s', R o s' → s'.TypeIs o T ∧ argsOk initId ⟨o :: args, kw⟩ ∧ ∃ Si, Meets (Bi ⟨o :: args, kw⟩) Si ∧ Si A.in1 (wants (fun r s'' => r = .none ∧ Q o s'') E) s') :
    wpAny (model prog w) A (call (.type T) args kw) Q E s := by
  obtain ⟨c, tl, hmro⟩ := ft.mro
  have hmade := ft.made
  have hsub := ft.sub
  refine wpAny_call (codeAny_of_tree ?_)
  show wpAny _ _ (callAny (.type T) _) _ _ _
  refine wpAny_pure ⟨Code.quiet_builtin _ (by decide +kernel), codeAny_builtin F.entry_type_call ?_⟩
  rw [Around.under_plain (weight_type_call_type T args kw) (units_type_call_type T args kw)]
  have n1 := ft.notType
  have n2 := ft.canCreate
  repeat (any_goals (first | assumption | wp_step))
  refine codeAny_mono (codeAny_call_builtin ft.plain eN (wpAny_of_eq h2 (g prog w A.in1 _ s h))) fun r s1 hr => ?_
  cases r with
  | error e => exact hr
  | ok fl =>
    cases fl with
    | ret o =>
      obtain ⟨hT, hok, Si, gi, hsi⟩ := k _ _ hr
      have hli := ft.init.lookup
      have hbi := ft.init.bind o
      repeat (any_goals (first | assumption | wp_step))
      refine codeAny_mono (codeAny_call_builtin ft.init.plain eI (ft.init.check _ _ _ _ _ _ _ _ hT hok (gi prog w A.in1 _ s1 hsi))) fun r2 s2 hr2 => ?_
      cases r2 with
      | error e => exact hr2
      | ok fl2 =>
        cases fl2 with
        | ret r =>
          obtain ⟨rfl, hq⟩ := hr2
          repeat (any_goals (first | assumption | wp_step))
        | _ => exact hr2.elim
    | _ => exact hr.elim
theorem init_named {T newId : String} {o : Value} {rest : List Value} {kw : List (Str × Value)} (hl : typeLookup (.type T) "__init__" = pure (some (.builtin "object.__init__")))
    (hm : Bind.madeBy (.type T) = pure (some newId)) (hne : (some newId != some "object.__new__") = true) :
    Meets (Builtin.«object.__init__» ⟨o :: rest, kw⟩) (fun _ R s => s.TypeIs o T ∧ R (.ok (.ret .none)) s) := by
  refine Meets.of_wp fun prog w A R s hs => ?_
  obtain ⟨hT, hq⟩ := hs
  cases rest with
  | nil =>
    cases kw with
    | nil => exact wpAny_pure ⟨_, rfl, hq⟩
    | cons p r =>
      repeat (any_goals (first | assumption | wp_step))
      exact ⟨_, rfl, hq⟩
  | cons a rest =>
    repeat (any_goals (first | assumption | wp_step))
    exact ⟨_, rfl, hq⟩
theorem call_en_start {l : Addr} {its : Array Value} {k : Nat} {c : Int} {t : Tok} {Q : Value → Shared → Prop} (hc : -(2 ^ 62) ≤ c ∧ c < 2 ^ 62) (hL : s.heap.get? l = some { cls := .type "list", dict := none, data := .seq its k, slots := #[] })
    (h : ∀ g, IsEnum g (s.heap.objs.size + 1) s.heap.objs.size c .none → g.IsListIter s.heap.objs.size l 0 → g.objs.size = s.heap.objs.size + 2 →
      (∀ b o, s.heap.get? b = some o → g.get? b = some o) → Q (.ref (s.heap.objs.size + 1)) { s with heap := g }) :
    wpAny (model prog w) A (call (.type "enumerate") [.ref l] [("start", .int c t)]) Q E s := by
  have hz : (s.heap.push { cls := .type "list_iterator", data := .fields #[.ref l, .int 0 0] }).objs.size = s.heap.objs.size + 1 := Heap.size_push ..
  refine callType_named (R := fun o s' => s'.TypeIs o "enumerate" ∧ Q o s') F.called_enumerate (start_check l c t) (start_new l c t) F.entry_enumerate_new F.entry_object_init (en_new l its k c t hc) ⟨hL, ?_⟩
    fun o s' hq => ⟨hq.1, start_init o l c t, _, init_named F.called_enumerate.init.lookup F.called_enumerate.made (by decide), hq.1, rfl, hq.2⟩
  show _ ∧ _
  rw [hz]
  have q : IsEnum ((s.heap.push { cls := .type "list_iterator", data := .fields #[.ref l, .int 0 0] }).push
      { cls := .type "enumerate", data := .fields #[.none, .bool false, .ref s.heap.objs.size, rawInt c, .none, .none] }) (s.heap.objs.size + 1) s.heap.objs.size c .none := by
    have := Heap.get?_push_size (s.heap.push { cls := .type "list_iterator", data := .fields #[.ref l, .int 0 0] })
      (o := { cls := .type "enumerate", data := .fields #[.none, .bool false, .ref s.heap.objs.size, rawInt c, .none, .none] }) rfl
    rw [hz] at this; exact this
  exact ⟨⟨_, q, rfl⟩, h _ q ⟨_, Heap.get?_push_of_some _ (Heap.get?_push_size _ rfl), rfl, rfl⟩ (by rw [Heap.size_push, hz]) fun b o x => Heap.get?_push_of_some _ (Heap.get?_push_of_some _ x)⟩
end
end L2
set_option Elab.async false
set_option maxHeartbeats 4000000
namespace L2
open PySem PySem.Spec PyProof.Rows
def Ite (K : PySem.W.Frag) (a : Addr) (c : Int) : It :=
  ⟨fun i H => ∃ xs x, SqL K H a xs ∧ xs[i]? = some x, fun i H x H' => ∃ p v, H p = none ∧ x = .ref p ∧ H' = upd H p (.tup [.int (c + i), v]) ∧ ∀ xs, SqL K H a xs → xs[i]? = some v, fun i H => ∃ xs, SqL K H a xs ∧ xs.length ≤ i⟩
theorem go_enum {prog : Program} {w : World} {A : Around} {E : Value → Shared → Prop} {s : Shared} {es : List Expr} {k : Nat} {pos : Pos} {n it t : Addr} {c : Int} {v : Value} {Q : Unit → Shared → Prop} (hn : IsEnumOut s.heap n it c v t)
    (hQ : ∀ g, IsEnum g n it c v → Heap.SameBut n s.heap g → Q () { s with heap := g }) : wpAny (model prog w) A (letOwnedTupleGo (.Tuple es k pos) (.ref n) (.ref t)) Q E s := by
  unfold letOwnedTupleGo
  refine wpAny_bind (wpAny_load hn ?_)
  simp only [List.contains_cons, beq_self_eq_true, Bool.true_or, Bool.true_and]
  rw [if_pos (by simp)]
  refine wpAny_bind (wpAny_rule ?_)
  show wpAny _ _ (setField (.ref n) 0 .none) _ _ _
  exact wpAny_setField_rec hn (by simp) fun g e sb => hQ g e sb
theorem turn_enum {P : Program} {w : World} {K : PySem.W.Frag} {es : List Expr} {kk : Nat} {tp : Pos} (a n it : Addr) (c : Int) (ne : n ≠ it) :
    Turn P w K (.Tuple es kk tp) (Ite K a c) [n, it] n (fun i h => (∃ old, IsEnum h n it (c + (i : Nat)) old) ∧ h.IsListIter it a i) where
  mem := by simp
  obj := fun i h st b hb => by
    obtain ⟨⟨old, hn⟩, o, ho, hc, hd⟩ := st
    rcases List.mem_cons.mp hb with rfl | hb
    · exact ⟨_, hn, fun v z => nomatch z⟩
    · have e : b = it := by simpa using hb
      subst e
      exact ⟨o, ho, fun v z => by rw [hd] at z; cases z⟩
  keep := fun i h h' st k => by
    obtain ⟨⟨old, hn⟩, hi⟩ := st
    exact ⟨⟨old, k n (by simp) _ hn⟩, hi.at fun o e => k it (by simp) o e⟩
  item := by
    intro X hP hw hK hc i pins s σ H E I hf st hg
    subst hP hw hK
    obtain ⟨xs, x, hq, hx⟩ := hg
    obtain ⟨its, rv, p, hz⟩ := I.list hq
    obtain ⟨u, hu, ru⟩ := rv.get hx
    obtain ⟨⟨old, hn⟩, hi⟩ := st
    obtain ⟨f0, f1, f2, f3, f4, f5⟩ := hf n (by simp)
    obtain ⟨g0, g1, g2, g3, g4, g5⟩ := hf it (by simp)
    refine en_item hn hi p.isList (v := u) (by simpa using hu) ne fun q o1 o2 o3 o4 o5 => ?_
    refine ⟨_, rfl, go_enum (s := { s with heap := q, toks := s.toks + 1 }) o1 fun z e2 sb2 => ?_⟩
    have sb2' : Heap.SameBut n q z := sb2
    have kept : ∀ b o, b ∉ [n, it] → s.heap.get? b = some o → z.get? b = some o := fun b o hb e => by
      simp only [List.mem_cons, List.not_mem_nil, or_false, not_or] at hb
      exact (sb2'.2 b hb.1).trans (o5 b o hb.1 hb.2 e)
    have fresh : H s.heap.objs.size = none := I.hok.fresh (Nat.le_refl _)
    have tup : z.get? s.heap.objs.size = some { cls := .type "tuple", data := .seq #[.int (c + (i : Nat)) s.toks, u] } := (sb2'.2 _ (Nat.ne_of_gt (Heap.lt_size hn))).trans o3
    have off : ∀ b v, H b = some v → b ∉ [n, it] := fun b v e hb => by
      simp only [List.mem_cons, List.not_mem_nil, or_false] at hb
      rcases hb with rfl | rfl
      · rw [f0] at e; cases e
      · rw [g0] at e; cases e
    have I1 : Inv X pins σ (upd H s.heap.objs.size (.tup [.int (c + (i : Nat)), x])) { s with heap := z, toks := s.toks + 1 } := by
      refine I.step (g' := s.gens) (d' := s.drawn) (ch := [n, it]) (fun b hb => ?_) (fun b o _ _ hb e _ => kept b o hb e) (fun b o _ _ hb e _ => ⟨o.slots, kept b o hb e⟩) (fun b o hb e q => ?_) (fun b o hb e => ⟨o, kept b o hb e⟩)
        (fun b ys e => by rw [upd_ne (ne_of_none e fresh)]; exact e) (fun b o v e => by rw [upd_ne (ne_of_none e fresh)]; exact e) (fun b ps e => ⟨#[], by rw [upd_ne (ne_of_none e fresh), e]; simp⟩) (fun m hm => ?_) (fun b v e => ?_) I.bare
      · simp only [List.mem_cons, List.not_mem_nil, or_false] at hb
        rcases hb with rfl | rfl
        · exact ⟨f3, f1, f4, f5⟩
        · exact ⟨g3, g1, g4, g5⟩
      · rw [upd_ne (Nat.ne_of_lt (Heap.lt_size e))]; exact q
      · obtain ⟨o, es', ep, ho, r⟩ := hm
        refine ⟨o, es', ep, kept _ o (fun hb => ?_) ho, r⟩
        simp only [List.mem_cons, List.not_mem_nil, or_false] at hb
        rcases hb with q | q
        · exact f1 q.symm
        · exact g1 q.symm
      · by_cases hb : b = s.heap.objs.size
        · subst hb
          rw [upd_same] at e; cases e
          refine ⟨by show 2 ≤ sizeLine; decide, [.int (c + (i : Nat)) s.toks, u], .cons ⟨_, rfl⟩ (.cons ru .nil), ⟨_, tup, rfl, _, rfl⟩⟩
        · rw [upd_ne hb] at e
          refine (I.hok b v e).stay (fun d v' hd q => kept d v' ?_ q) (fun d q => by rw [upd_ne (ne_of_none q fresh)]; exact q) fun d ys q => by rw [upd_ne (ne_of_none q fresh)]; exact q
          rcases hd with rfl | hd
          · exact off _ _ e
          · exact off _ _ hd
    refine ⟨.ref s.heap.objs.size, _, I1, rfl, ⟨_, x, fresh, rfl, rfl, fun ys hy => by rw [I.list_inj hy hq]; exact hx⟩, ⟨⟨u, ?_⟩, o2.extBut sb2'.extBut (Ne.symm ne)⟩, fun b hb => ?_⟩
    · have e : c + ((i + 1 : Nat) : Int) = c + (i : Nat) + 1 := by omega
      rw [e]; exact e2
    · have hb' := hb
      simp only [List.mem_cons, List.not_mem_nil, or_false] at hb
      have lt : b < s.heap.objs.size := by
        rcases hb with rfl | rfl
        · exact Heap.lt_size hn
        · obtain ⟨o, ho, _⟩ := hi; exact Heap.lt_size ho
      rw [upd_ne (Nat.ne_of_lt lt)]
      exact (hf b hb').1
  done := by
    intro X hP hw hK hc i pins s σ H E I hf st hg
    subst hP hw hK
    obtain ⟨xs, hq, hx⟩ := hg
    obtain ⟨its, rv, p, hz⟩ := I.list hq
    obtain ⟨⟨old, hn⟩, hi⟩ := st
    obtain ⟨g0, g1, g2, g3, g4, g5⟩ := hf it (by simp)
    have hl := rv.length
    exact en_end (I.ok.hd hc) hn hi p.isList (by simp; omega) fun g eb => ⟨rfl, I.turned (t' := s.toks) (fun b o hb e => eb b o hb e) g0 g1 g3 g4 g5⟩
  self := fun A i s Q E st h => by
    obtain ⟨⟨old, hn⟩, _⟩ := st
    exact wpAny_pyIter_enum hn h
/-- the list that is counted -/
def iEnum (K : PySem.W.Frag) (c : Int) (ta : TA) : TI := fun σ H R => ta σ H fun vs H1 => ∃ a xs, vs = [.ref a] ∧ H1 a = some (.lst xs) ∧ R (Ite K a c) H1
section
variable {X : Cx} {es : List Expr} {kk : Nat} {tp : Pos}
theorem enum_it {pins : List (Addr × Obj)} {σ : St} {H : Hp} {s : Shared} {R : It → Hp → Prop} {E : Value → Shared → Prop} {a : Addr} {c : Int} {g : Heap} (I : Inv X pins σ H s) (q : R (Ite X.K a c) H)
    (o1 : IsEnum g (s.heap.objs.size + 1) s.heap.objs.size c .none) (o2 : g.IsListIter s.heap.objs.size a 0) (k : ∀ b o, s.heap.get? b = some o → g.get? b = some o) :
    wpAny (model X.prog X.w) X.A (pyIter (.ref (s.heap.objs.size + 1))) (PIE X pins σ (.Tuple es kk tp) R) E { s with heap := g } := by
  refine wpAny_pyIter_enum o1 ?_
  refine ⟨s.heap.objs.size + 1, [s.heap.objs.size + 1, s.heap.objs.size], _, _, H, rfl, I.kept (t' := s.toks) k, turn_enum a _ _ c (Nat.succ_ne_self _), ⟨⟨.none, ?_⟩, o2⟩, fun b hb => ?_, q⟩
  · have e : c + ((0 : Nat) : Int) = c := by omega
    rw [e]; exact o1
  · simp only [List.mem_cons, List.not_mem_nil, or_false] at hb
    rcases hb with rfl | rfl
    · exact I.fpOk (Nat.le_succ _) (I.hok.fresh (Nat.le_succ _))
    · exact I.fpOk (Nat.le_refl _) (I.hok.fresh (Nat.le_refl _))
theorem pi_enumS {a : Expr} {ta : TA} {p pos kp cp : Pos} {c : Int} {j : Nat} (hm : X.mg "enumerate" = none) (ha : PA X [a] ta) (hc : -(2 ^ 62) ≤ c ∧ c < 2 ^ 62 := by decide) (hg : Gl X "enumerate" := by rfl)
    (he : starEach [a] X.env = (false, eval a X.env) :: starEach [] X.env := by rfl) (hpl : ((backTo pos (starEach [a] X.env)).any (·.1) || (backToKw pos (keywordEach [⟨some "start", .Constant (.int c) j cp, kp⟩] X.env)).any (·.1.isNone)) = false := by rfl) :
    PI X (.Tuple es kk tp) (.Call (.Name "enumerate" p) [a] [⟨some "start", .Constant (.int c) j cp, kp⟩] pos) (iEnum X.K c ta) := by
  intro pins s σ H R I h
  refine wpAny_Call_Name_kw (ld_blt I hg hm boot_enumerate ?_)
  refine PySem.W.callWith_of (P := fun _ => True) hpl (fun h _ => ⟨.machine, .inr (.inl rfl), PySem.W.Looks.of_pure rfl⟩) (evalArgs_kw2 rfl (thn (ha pos pins s σ H _ I h) fun us s1 ⟨vs, H1, I1, r, q⟩ => ?_) he)
  have hk : PK X [⟨some "start", .Constant (.int c) j cp, kp⟩] (tCons (tC (.int c)) tNil) := pk_cons pe_int pk_nil
  obtain ⟨l, xs, rfl, hl, q⟩ := q
  obtain ⟨u, rfl, ru⟩ := vals1 r
  cases ru
  refine thn (hk pos pins s1 σ H1 (fun vs H' => vs = [.int c] ∧ H' = H1) I1 ⟨rfl, rfl⟩) fun ws s2 ⟨zs, H2, I2, rz, ez, eh⟩ => ⟨trivial, ?_⟩
  subst ez; subst eh
  obtain ⟨w1, rfl, t, rfl⟩ := vals1 rz
  obtain ⟨z, its, n, r', hn, e⟩ := I2.lstM hl
  show wpAny _ _ (call (.type "enumerate") [.ref l] [("start", .int c t)]) _ _ _
  exact call_en_start hc e fun g o1 o2 o3 o4 => enum_it I2 q o1 o2 o4
end
theorem for_enum {K : PySem.W.Frag} {a : Addr} {xs : List V} {c : Int} {g : TG} {tb : TS} {D : Ends} {σ : St} {H : Hp} (Pv : Nat → St → Hp → Prop) (h0 : Pv 0 σ H) (hl : ∀ i σ H, i ≤ xs.length → Pv i σ H → SqL K H a xs)
    (hs : ∀ i x σ H p, xs[i]? = some x → Pv i σ H → H p = none → g (.ref p) σ (upd H p (.tup [.int (c + (i : Nat)), x])) fun σ2 H2 => tb { D with nx := Pv (i + 1), ct := Pv (i + 1), bk := D.nx } σ2 H2) (hd : ∀ σ H, Pv xs.length σ H → D.nx σ H) :
    ∃ W : Nat → Nat → St → Hp → Prop, (∃ m, W 0 m σ H) ∧ ∀ i m σ H, W i m σ H →
      ((Ite K a c).stop i H ∧ D.nx σ H) ∨ ((Ite K a c).go i H ∧ ∃ N : St → Hp → Prop, (∀ σ' H', N σ' H' → ∃ m', m' < m ∧ W (i + 1) m' σ' H') ∧ ∀ x H', (Ite K a c).yld i H x H' → g x σ H' fun σ2 H2 => tb { D with nx := N, ct := N, bk := D.nx } σ2 H2) := by
  refine ⟨fun i m σ H => m = xs.length - i ∧ i ≤ xs.length ∧ Pv i σ H, ⟨xs.length, by simp, Nat.zero_le _, h0⟩, ?_⟩
  rintro i m σ H ⟨rfl, hi, p⟩
  have q := hl i σ H hi p
  by_cases hlt : i < xs.length
  · refine .inr ⟨⟨xs, xs[i], q, by simp [hlt]⟩, Pv (i + 1), fun σ' H' p' => ⟨xs.length - (i + 1), by omega, rfl, hlt, p'⟩, fun x H' y => ?_⟩
    obtain ⟨pp, v, e1, e2, e3, y⟩ := y
    subst e2 e3
    exact hs i v σ H pp (y xs q) p e1
  · have e : i = xs.length := by omega
    subst e
    exact .inl ⟨⟨xs, q, Nat.le_refl _⟩, hd σ H p⟩
end L2
set_option Elab.async false
set_option maxHeartbeats 4000000
namespace L2
open PySem PySem.Spec PyProof.Rows
section
variable {P : Program} {w : World} {K : PySem.W.Frag} {mg : Str → Option Value} {base : Heap} {N : List Str} {qual : Str} {scope : Scope} {f : Addr} {cd : Value} {A : Around} {outer : List Env} {s : Shared} {H : Hp} {E : XK}
end
end L2
set_option Elab.async false
set_option maxHeartbeats 4000000
namespace L2
open PySem PySem.Spec PyProof.Rows
abbrev TJ := St → Hp → Str → VK → Prop
def PJ (X : Cx) (es : List Expr) (t : TJ) : Prop :=
  ∀ (out : Str) (pins : List (Addr × Obj)) (s : Shared) (σ : St) (H : Hp) (Q : VK), Inv X pins σ H s → t σ H out Q → wpAny (model X.prog X.w) X.A (joinParts out (evalEach es X.env)) (EP X pins σ Q) X.xe s
section
variable {X : Cx} {e v1 v2 : Expr} {es : List Expr} {te : TE} {t : TJ} {pos : Pos}
theorem pj_nil : PJ X [] (fun _ H out Q => out.length ≤ sizeLine ∧ Q (.str out) H) := fun out pins s σ H Q I h => joinParts_nil ⟨.str out, H, I.tok _, ⟨_, rfl⟩, h.2⟩ h.1
theorem pj_cons (he : PE X e te) (hr : PJ X es t) : PJ X (e :: es) (fun σ H out Q => te σ H fun x H1 => ∃ z, x = .str z ∧ (out ++ z).length ≤ sizeLine ∧ t σ H1 (out ++ z) Q) := fun out pins s σ H Q I h => by
  show wpAny _ _ (joinParts out (eval e X.env :: evalEach es X.env)) _ _ s
  refine joinParts_cons (thn (he pins s σ H _ I h) fun u s1 ⟨x, H1, I1, r, z, ez, hz, q⟩ => ?_)
  subst ez
  obtain ⟨tk, rfl⟩ := r
  exact ⟨hz, hr _ pins s1 σ H1 Q I1 q⟩
theorem pe_join (h : PJ X (v1 :: v2 :: es) t) : PE X (.JoinedStr (v1 :: v2 :: es) pos) (fun σ H Q => t σ H Str.empty Q) := fun pins s σ H Q I q => JoinedStr_many (h Str.empty pins s σ H Q I q)
theorem pe_fmt (he : PE X e te) : PE X (.FormattedValue e (-1) none pos) (fun σ H Q => te σ H fun x H1 => ∃ i : Int, x = .int i ∧ i.natAbs.log2 < 1920 ∧ Q (.str (toString i)) H1) := fun pins s σ H Q I h => by
  refine FormattedValue_plain (thn (he pins s σ H _ I h) fun u s1 ⟨x, H1, I1, r, i, ei, hi, q⟩ => ?_)
  subst ei
  obtain ⟨tk, rfl⟩ := r
  exact formatField_int_small hi ⟨.str (toString i), H1, I1.tok _, ⟨_, rfl⟩, q⟩
end
section
variable {P : Program} {w : World} {K : PySem.W.Frag} {mg : Str → Option Value} {base : Heap} {N : List Str} {qual : Str} {scope : Scope} {f : Addr} {cd : Value} {A : Around} {outer : List Env} {s : Shared} {H : Hp} {E : XK}
end
end L2
set_option Elab.async false
set_option maxHeartbeats 4000000
namespace L2
open PySem PySem.Spec PyProof.Rows
section
variable {X : Cx} {pins : List (Addr × Obj)} {σ : St} {H : Hp} {s : Shared}
end
end L2
set_option Elab.async false
set_option maxHeartbeats 4000000
namespace L2
open PySem PySem.Spec PyProof.Rows
end L2
set_option Elab.async false
set_option maxHeartbeats 4000000
set_option maxRecDepth 20000
namespace L2
open PySem PySem.Spec PyProof.Rows
section
variable {prog : Program} {w : World} {A : Around} {E : Value → Shared → Prop} {s : Shared} {K : PySem.W.Frag} {x C : Addr} {ox : Obj}
open PySem.W PySem.Builtin PySem.Builtin.ObjectAttr PySem.Builtin.Getset_descriptor in
open PySem.W PySem.Builtin PySem.Builtin.ObjectAttr PySem.Builtin.Getset_descriptor in
open PySem.W PySem.Builtin PySem.Builtin.ObjectAttr PySem.Builtin.Getset_descriptor in
open PySem.W in
open PySem.W in
open PySem.W in
end
section
variable {X : Cx}
end
end L2
set_option Elab.async false
set_option maxHeartbeats 4000000
set_option maxRecDepth 20000
namespace L2
open PySem PySem.Spec PyProof.Rows
section
variable {X : Cx}
end
end L2
set_option Elab.async false
set_option maxHeartbeats 4000000
namespace L2
open PySem PySem.Spec PyProof.Rows
section
variable {P : Program} {w : World} {K : PySem.W.Frag} {mg : Str → Option Value} {base : Heap} {CX : CXT} {k : Nat} {f C : Addr} {fd : FuncData} {ps : List Str} {sp : Sp} {x m : Str}
end
end L2
set_option Elab.async false
set_option maxHeartbeats 4000000
namespace L2
open PySem PySem.Spec PyProof.Rows
def cxLCS (X : Cx) (NB : List Str) (scope : Scope) (cl : List (Str × Addr)) (C : Addr) (x : Str) (s0 : Shared) (H0 : Hp) (fp : List Addr) (pn : List (Addr × Obj)) : Cx :=
  { X with N := x :: NB, s₀ := s0, H₀ := H0, env := compEnvC scope cl C X.env, outer := X.stack, stack := X.stack, ex := fp, fn := fun _ => false, pn := pn, xe := fun _ _ => False }
def lcOkS (N NB : List Str) (names outer : List (Str × NameKind)) (x : Str) : Bool :=
  (NB.length == N.length && (NB.zip N).all fun p => p.1 == p.2 || names.lookup p.1 == none) && lcOk NB names outer x
end L2
set_option Elab.async false
set_option maxHeartbeats 4000000
namespace L2
open PySem PySem.Spec PyProof.Rows
section
variable {X : Cx}
end
end L2
set_option Elab.async false
set_option maxHeartbeats 4000000
namespace L2
open PySem PySem.Spec PyProof.Rows
theorem lc_core {X : Cx} (NB : List Str) (use : Option (Value → Sem Unit)) (QF : Value → Shared → Prop) {x : Str} {px : Pos} {iter elt : Expr} {ifs : List Expr} {scope : Scope} {pos : Pos} {wi : TI} {tc : TT} {te : TE} {pins : List (Addr × Obj)} {s : Shared} {σ : St} {H : Hp} {Q : VK} {cp : Pos} (hc : X.calm = true) (hi : PI X (.Name x px) iter wi)
    (ht : ∀ cl C s0 H0 fp pn, PTs (cxLCS X NB scope cl C x s0 H0 fp pn) ifs tc) (he : ∀ cl C s0 H0 fp pn, PE (cxLCS X NB scope cl C x s0 H0 fp pn) elt te)
    (hlen : NB.length = X.N.length) (hsub : ∀ (j : Nat) (y : Str), NB[j]? = some y → X.N[j]? = some y ∨ scope.names.lookup y = none) (hndB : NB.Nodup) (hN : ∀ y ∈ NB, scope.names.lookup y ≠ some .local) (hx : scope.names.lookup x = some .local)
    (hfree : ∀ y ∈ scope.names, y.2 = .free → X.env.kindOf y.1 = some .cell) (hcell : ∀ y ∈ scope.names, y.2 ≠ .cell)
    (hnames : ∀ y ∈ scope.names, y.2 = .local → scope.names.lookup y.1 = some .local) (hkind : scope.kind = .function)
    (hs : ∀ x, foldedSetIterable iter X.env x = pure x) (I : Inv X pins σ H s) (h : tLC wi tc te σ H Q)
    (hR : ∀ (D C : Addr) (s4 : Shared) (H4 : Hp) (m : Str → Option Value), s4.heap.Ns C m → X.s₀.heap.objs.size ≤ C → C ≠ X.env.locals → C ∉ X.fs → (∀ y c, X.env.cells.lookup y = some c → c ≠ C) → (∀ p ∈ X.pn ++ pins, p.1 ≠ C) → H4 C = none → (∀ h', Heap.SameBut C s4.heap h' → Inv X pins σ H4 { s4 with heap := h' }) → Q (.ref D) H4 → compPost (model X.prog X.w) X.A X.xe use QF (.ref D) C (.ok .next) s4) :
    wpAny (model X.prog X.w) X.A (comprehension (.ListComp elt [⟨.Name x px, iter, ifs, 0⟩] scope pos) scope X.env cp (newList []) false (eval iter X.env) use) QF X.xe s := by
  obtain ⟨cl, hclos, hcl1, hcl2⟩ := closureFor_ok (env := X.env) (scope := scope) fun n hn => I.ok.has n (.inl (hfree (n, .free) hn rfl))
  refine wpAny_comprehension_free (use := use) rfl hs hclos hkind hnames (thn (hi pins s σ H _ I h) fun xv s1 h1 => thn h1 fun itv s2 h2 => ?_)
  obtain ⟨it, fp, tn, J, H2, e, I2, T, st2, f2, W, ⟨m0, w0⟩, turn⟩ := h2
  subst e
  refine wpAny_newObj_type (wpAny_newFunctionEnv hcell (by intro y hy; simp at hy) (fun h₁ hns₁ hsb₁ => ?_) hkind)
  dsimp only at hns₁ hsb₁ ⊢
  generalize hH2 : s2.heap.push { cls := .type "list", dict := none, data := .seq ([] : List Value).toArray } = HH at hns₁ hsb₁ ⊢
  have hC : HH.objs.size = s2.heap.objs.size + 1 := by rw [← hH2, Heap.size_push]
  have hDC : s2.heap.objs.size ≠ HH.objs.size := by rw [hC]; exact Nat.ne_of_lt (Nat.lt_succ_self _)
  have below : ∀ b, b < s2.heap.objs.size → b ≠ HH.objs.size ∧ b ≠ s2.heap.objs.size := fun b hb => ⟨by rw [hC]; exact Nat.ne_of_lt (Nat.lt_succ_of_lt hb), Nat.ne_of_lt hb⟩
  have old : ∀ b o, s2.heap.get? b = some o → h₁.get? b = some o := fun b o e => hsb₁.extBut b o (below b (Heap.lt_size e)).1 (Heap.get?_push_of_some _ (hH2 ▸ Heap.get?_push_of_some _ e))
  have hacc : h₁.get? s2.heap.objs.size = some (lobj [] 0) := hsb₁.extBut _ _ hDC (Heap.get?_push_of_some _ (hH2 ▸ Heap.get?_push_size _ rfl))
  have hfpo := T.obj 0 _ st2
  have hfplt : ∀ b ∈ fp, b < s2.heap.objs.size := fun b hb => by
    obtain ⟨o, e, _⟩ := hfpo b hb
    exact Heap.lt_size e
  have stl : ∀ b ∈ frs X.stack, b < s2.heap.objs.size := fun b hb => by
    obtain ⟨_, o, ho, _⟩ := I2.stack.mem hb
    exact Heap.lt_size ho
  have celt : ∀ y c, X.env.cells.lookup y = some c → c < s2.heap.objs.size := fun y c e => by
    obtain ⟨v, q⟩ := I2.cell y c e
    exact q.lt
  have hpf : ∀ p ∈ X.pn ++ pins, p.1 ∉ frs X.stack := fun p hp z => by
    obtain ⟨_, _, n1, n2, _⟩ := I2.pin p hp
    rcases List.mem_cons.mp (I2.stkSub _ z) with q | q
    · exact n1 q
    · exact n2 q
  have locLt : X.env.locals < s2.heap.objs.size := by
    obtain ⟨m, ⟨o, _, _, ho, _⟩, _⟩ := I2.loc
    exact Heap.lt_size ho
  have fsLt : ∀ b ∈ X.fs, b < s2.heap.objs.size := fun b hb => by
    obtain ⟨_, o, ho, _⟩ := I2.ok.funs.mem hb
    exact Nat.lt_of_lt_of_le (Heap.lt_size ho) I2.sz
  -- the block's context
  have okX : (cxLCS X NB scope cl HH.objs.size x s2 H2 fp (X.pn ++ pins)).Ok := by
    refine ⟨I2.ok.mod, hkind, I2.ok.glob, I2.ok.blt, ?_, fun y z c e1 e2 => I2.ok.inj y z c (hcl1 _ _ e1) (hcl1 _ _ e2), fun y hy => ?_, fun y c hf => (nomatch hf), I2.ok.hd, I2.ok.frames, .inl rfl, fun b hb => ?_, I2.bs, ?_, fun b o e hb => ?_, fun b hb => ?_, I2.stack, I2.stkFree⟩
    · show s2.heap.objs.size ≤ HH.objs.size
      rw [hC]; exact Nat.le_succ _
    · have hy' : (relabel scope X.env).names.lookup y = some .cell ∨ (relabel scope X.env).names.lookup y = some .free := hy
      rw [names_relabel] at hy'
      have : scope.names.lookup y = some .free := by
        cases q : scope.names.lookup y with
        | none => rw [q] at hy'; rcases hy' with z | z <;> cases z
        | some k =>
          have hm := PySem.mem_of_lookup q
          rw [q] at hy'
          have hk : gRel X.env y k = .cell ∨ gRel X.env y k = .free := by simpa using hy'
          unfold gRel at hk
          split at hk
          · rename_i c
            simp at c
            rw [c.1.1]
          · rcases hk with z | z
            · exact absurd z (hcell _ hm)
            · rw [z]
      exact hcl2 y (PySem.mem_of_lookup this)
    · refine ⟨?_, fun y c e z => (f2 b hb).2.2.2.2.1 y c (hcl1 _ _ e) z⟩
      exact (below b (hfplt b hb)).1
    · exact Nat.le_trans I2.ok.bsz I2.sz
    · have := (I2.bs b o e).2
      rcases (f2 b hb).2.2.2.1 with z | z
      · exact I2.ok.noex b o e z
      · exact absurd (Nat.lt_of_lt_of_le (Heap.lt_size (I2.ok.bs b o e).1) z) (Nat.lt_irrefl _)
    · intro z
      rcases List.mem_cons.mp (I2.stkSub _ z) with q | q
      · exact (f2 b hb).2.1 q
      · exact (f2 b hb).2.2.1 q
  have start : ∀ t, Inv (cxLCS X NB scope cl HH.objs.size x s2 H2 fp (X.pn ++ pins)) [(s2.heap.objs.size, lobj [] 0)] (none :: σ) H2 { s2 with heap := h₁, toks := t } := fun t => by
    refine ⟨okX, rfl, I2.bare, Un.kept old, ⟨_, hns₁, fun i y v e1 e2 e3 => ?_⟩, fun y c e => ?_, I2.hok.fresh (by show s2.heap.objs.size ≤ HH.objs.size; rw [hC]; exact Nat.le_succ _), fun y c e => I2.freeC y c (hcl1 _ _ e), fun p hp => ?_, I2.hok.kept old, ?_⟩
    · cases i with
      | zero => cases e2
      | succ j =>
        have e0' : NB[j]? = some y := e1
        have e2' : σ[j]? = some (some v) := e2
        have hyN : y ∈ NB := List.mem_of_getElem? e0'
        have e3' : Vis (relabel scope X.env) y := e3
        unfold Vis at e3'
        rw [names_relabel] at e3'
        cases q : scope.names.lookup y with
        | none => rw [q] at e3'; rcases e3' with z | z | z <;> cases z
        | some k =>
          have hm := PySem.mem_of_lookup q
          rw [q] at e3'
          have kf : k = .free := by
            have hk : gRel X.env y k = .local ∨ gRel X.env y k = .cell ∨ gRel X.env y k = .free := by simpa using e3'
            unfold gRel at hk
            split at hk
            · rename_i c; simp at c; exact c.1.1
            · rcases hk with z | z | z
              · exact absurd (q.trans (congrArg some z)) (hN y hyN)
              · exact absurd z (hcell _ hm)
              · exact z
          subst kf
          have kc := hfree _ hm rfl
          have e1' : X.N[j]? = some y := (hsub j y e0').resolve_right (by rw [q]; exact fun z => nomatch z)
          obtain ⟨m, hn, hl⟩ := I2.loc
          obtain ⟨u, ru, lk⟩ := hl j y v e1' e2' (.inr (.inl kc))
          refine ⟨u, ru, ?_⟩
          rcases lk with ⟨z, _⟩ | ⟨_, c, ec, hcell'⟩
          · rw [kc] at z; cases z
          · obtain ⟨c', ec'⟩ := hcl2 y hm
            have : c' = c := by have z := hcl1 _ _ ec'; rw [ec] at z; exact (Option.some.inj z).symm
            subst this
            refine .inr ⟨.inl ?_, c', ec', ?_⟩
            · show (relabel scope X.env).names.lookup y = some .cell
              rw [names_relabel, q]
              show some (gRel X.env y .free) = _
              unfold gRel
              rw [I2.ok.kind, kc]; rfl
            · obtain ⟨o, ho, hd⟩ := hcell'
              exact ⟨o, old _ _ ho, hd⟩
    · obtain ⟨v, o, ho, hd⟩ := I2.cell y c (hcl1 _ _ e)
      exact ⟨v, o, old _ _ ho, hd⟩
    · rcases List.mem_append.mp hp with hp | hp
      · obtain ⟨a1, a2, a3, a4, a5⟩ := I2.pin p hp
        exact ⟨old _ _ a1, a2, (below _ (Heap.lt_size a1)).1, hpf p hp, a5⟩
      · have ep : p = (s2.heap.objs.size, lobj [] 0) := by simpa using hp
        subst ep
        exact ⟨hacc, I2.hok.fresh (Nat.le_refl _), hDC, fun z => absurd (stl _ z) (Nat.lt_irrefl _), fun v z => nomatch z⟩
    · show (none :: σ).length = (x :: NB).length
      rw [List.length_cons, List.length_cons, I2.len, hlen]
  have fpo : ∀ {H' : Hp} {pl : List (Addr × Obj)}, (∀ b ∈ fp, H' b = none) → (∀ p ∈ pl, p.1 = s2.heap.objs.size) → ∀ b ∈ fp, FpOk (cxLCS X NB scope cl HH.objs.size x s2 H2 fp (X.pn ++ pins)) pl H' b := fun hn hpl b hb => by
    obtain ⟨_, a2, a3, a4, a5, a6⟩ := f2 b hb
    refine ⟨hn b hb, (below b (hfplt b hb)).1, fun z => ?_, .inl hb, fun y c e z => a5 y c (hcl1 _ _ e) z, fun p hp z => ?_⟩
    · rcases List.mem_cons.mp (I2.stkSub _ z) with q | q
      · exact a2 q
      · exact a3 q
    · rcases List.mem_append.mp hp with hp | hp
      · exact a6 p hp z
      · have := hpl p hp
        rw [this] at z
        exact (below b (hfplt b hb)).2 z.symm
  have hnd' : (x :: NB).Nodup := List.nodup_cons.mpr ⟨fun z => hN x z hx, hndB⟩
  have loop : ∀ t, codeAny (model X.prog X.w) X.A (.compLoop (.ListComp elt [⟨.Name x px, iter, ifs, 0⟩] scope pos) 0 (.ref it) (.ref s2.heap.objs.size) (compEnvC scope cl HH.objs.size X.env))
      (compPost (model X.prog X.w) X.A X.xe use QF (.ref s2.heap.objs.size) HH.objs.size) { s2 with heap := h₁, toks := t } := fun t => by
    refine compLoop_own (fun n s' => ∃ i ys its k H', Inv (cxLCS X NB scope cl HH.objs.size x s2 H2 fp (X.pn ++ pins)) [(s2.heap.objs.size, lobj its k)] (none :: σ) H' s' ∧ Vals ys its ∧ ys.length ≤ sizeLine ∧ tn i s'.heap ∧ (∀ b ∈ fp, H' b = none) ∧ W i n ys H') ?_ m0
      ⟨0, [], [], 0, H2, start t, .nil, Nat.zero_le _, T.keep _ _ _ st2 fun b _ o e => old b o e, fun b hb => (f2 b hb).1, w0⟩
    rintro n s3 ⟨i, ys, its, k, H3, I3, r3, z3, st3, fr3, w3⟩
    have hone : ∀ p ∈ [(s2.heap.objs.size, lobj its k)], p.1 = s2.heap.objs.size := fun p hp => by
      have : p = (s2.heap.objs.size, lobj its k) := by simpa using hp
      rw [this]
    rcases turn i n ys H3 w3 with ⟨stop, qn⟩ | ⟨go, zlt, NN, hNN, step⟩
    · refine thn (T.done (cxLCS X NB scope cl HH.objs.size x s2 H2 fp (X.pn ++ pins)) rfl rfl rfl hc i _ s3 (none :: σ) H3 (fun _ _ => False) I3 (fpo fr3 hone) st3 stop) fun r s4 ⟨hr, I4⟩ => ?_
      subst hr
      obtain ⟨m, hm, _⟩ := I4.loc
      have pD := I4.pin (s2.heap.objs.size, lobj its k) (List.mem_append_right _ List.mem_cons_self)
      have hCn : H3 HH.objs.size = none := I4.free
      refine hR s2.heap.objs.size HH.objs.size s4 (upd H3 s2.heap.objs.size (.lst ys)) m hm (by rw [hC]; exact Nat.le_trans I2.sz (Nat.le_succ _)) (Ne.symm (below _ locLt).1) (fun z => (below _ (fsLt _ z)).1 rfl) (fun y c e => (below _ (celt y c e)).1) (fun p hp => (below _ (Heap.lt_size (I2.pin p hp).1)).1) (by rw [upd_ne (Ne.symm hDC)]; exact hCn) (fun h' sb => ?_) (qn _ pD.2.1)
      have gD : h'.get? s2.heap.objs.size = some (lobj its k) := (sb.2 _ hDC).trans pD.1
      refine I2.call' (ch := fp) (I4.os) (Un.late I4.base (fun b q e => I2.hok.lt e) (Nat.le_refl _) fun b hb => sb.2 b (below b hb).1) (fun b u e => ?_) I4.bare (fun b hb => ?_)
      · by_cases hb : b = s2.heap.objs.size
        · subst hb
          rw [upd_same] at e
          cases e
          exact ⟨z3, its, k, r3, gD⟩
        · rw [upd_ne hb] at e
          refine (I4.hok b u e).stay (fun c v hcc q => (sb.2 c ?_).trans q) (fun c q => ?_) fun c xs q => ?_
          · rintro rfl
            have fr := I4.free
            rcases hcc with z | z
            · rw [← z] at e; rw [show (cxLCS X NB scope cl HH.objs.size x s2 H2 fp (X.pn ++ pins)).env.locals = HH.objs.size from rfl] at fr; rw [fr] at e; cases e
            · rw [show (cxLCS X NB scope cl HH.objs.size x s2 H2 fp (X.pn ++ pins)).env.locals = HH.objs.size from rfl] at fr; rw [fr] at z; cases z
          · rw [upd_ne (ne_of_none q pD.2.1)]; exact q
          · rw [upd_ne (ne_of_none q pD.2.1)]; exact q
      · obtain ⟨_, a2, _, a4, a5, a6⟩ := f2 b hb
        exact ⟨a4, a2, a5, a6⟩
    · refine thn (T.item (cxLCS X NB scope cl HH.objs.size x s2 H2 fp (X.pn ++ pins)) rfl rfl rfl hc i _ s3 (none :: σ) H3 (fun _ _ => False) I3 (fpo fr3 hone) st3 go) fun r s4 ⟨u, hr, h4⟩ => ?_
      subst hr
      refine thn h4 fun _ s5 ⟨v, H5, I5, r5, y5, st5, fr5⟩ => ?_
      have I5' := I5.pinned (fpo fr5 hone) (T.obj _ _ st5)
      refine wpAny_assign_Name (store_ok (X := cxLCS X NB scope cl HH.objs.size x s2 H2 fp (X.pn ++ pins)) (i := 0) I5' hnd' rfl (.inl (by show (relabel scope X.env).names.lookup x = _; rw [names_relabel, hx]; rfl)) r5 (fun s6 I6 => ?_) (.inr (by show (relabel scope X.env).names.lookup x = _; rw [names_relabel, hx]; rfl)))
      have I6' : Inv (cxLCS X NB scope cl HH.objs.size x s2 H2 fp (X.pn ++ pins)) ([(s2.heap.objs.size, lobj its k)] ++ pinsAt fp s5.heap) (some v :: σ) H5 s6 := I6
      refine thn (ht cl HH.objs.size s2 H2 fp (X.pn ++ pins) _ s6 _ H5 _ I6' (step v H5 y5)) fun c s7 ⟨H7, I7, q7⟩ => ?_
      -- what the block's state says of the iterator and the list
      have again : ∀ {H9 : Hp} {s9 : Shared} {σ9 : St} {zs : List V} {jts : List Value} {k' : Nat}, Inv (cxLCS X NB scope cl HH.objs.size x s2 H2 fp (X.pn ++ pins)) ([(s2.heap.objs.size, lobj jts k')] ++ pinsAt fp s5.heap) (some v :: σ) H9 s9 → Vals zs jts → zs.length ≤ sizeLine → NN zs H9 →
          ∃ m, m < n ∧ ∃ i ys its k H', Inv (cxLCS X NB scope cl HH.objs.size x s2 H2 fp (X.pn ++ pins)) [(s2.heap.objs.size, lobj its k)] (none :: σ) H' s9 ∧ Vals ys its ∧ ys.length ≤ sizeLine ∧ tn i s9.heap ∧ (∀ b ∈ fp, H' b = none) ∧ W i m ys H' := fun {H9 s9 σ9 zs jts k'} I9 r9 z9 n9 => by
        obtain ⟨m', hm, w9⟩ := hNN zs H9 n9
        refine ⟨m', hm, i + 1, zs, jts, k', H9, (I9.unpinned.weak (σ' := none :: σ) rfl fun j v' e => ?_), r9, z9, T.keep _ _ _ st5 fun b hb o e => (I9.pin (b, o) (List.mem_append_right _ (List.mem_append_right _ (mem_pinsAt hb e)))).1, fun b hb => ?_, w9⟩
        · cases j with
          | zero => cases e
          | succ j => exact e
        · obtain ⟨o, e, d⟩ := T.obj _ _ st5 b hb
          exact (I9.pin (b, o) (List.mem_append_right _ (List.mem_append_right _ (mem_pinsAt hb e)))).2.1
      cases c with
      | false =>
        simp only [Bool.false_eq_true, if_false] at q7 ⊢
        exact again (σ9 := []) I7 r3 z3 q7
      | true =>
        simp only [if_true] at q7 ⊢
        refine thn (he cl HH.objs.size s2 H2 fp (X.pn ++ pins) _ s7 _ H7 _ I7 q7) fun u8 s8 ⟨y, H8, I8, r8, q8⟩ => ?_
        have pD := I8.pin (s2.heap.objs.size, lobj its k) (List.mem_append_right _ (List.mem_append_left _ List.mem_cons_self))
        refine append_at (hsz := by rw [List.size_toArray, ← r3.length]; exact z3) pD.1 fun h9 sb9 hD9 => ?_
        have e9 : ({ cls := .type "list", data := .seq (its.toArray.push u8) (k + 1) } : Obj) = lobj (its ++ [u8]) (k + 1) := by
          show _ = ({ cls := .type "list", data := .seq (its ++ [u8]).toArray (k + 1) } : Obj)
          rw [List.push_toArray]
        rw [e9] at hD9
        have Ia : Inv (cxLCS X NB scope cl HH.objs.size x s2 H2 fp (X.pn ++ pins)) (pinsAt fp s5.heap) (some v :: σ) H8 s8 := I8.pins_of fun p hp => I8.pin p (List.mem_append_right _ (List.mem_append_right _ hp))
        have nfp : ∀ p ∈ pinsAt fp s5.heap, p.1 ≠ s2.heap.objs.size := fun p hp => (below _ (hfplt _ (of_pinsAt hp).1)).2
        have Ib : Inv (cxLCS X NB scope cl HH.objs.size x s2 H2 fp (X.pn ++ pins)) (pinsAt fp s5.heap) (some v :: σ) H8 { s8 with heap := h9, toks := s8.toks } := by
          refine Ia.turned (it := s2.heap.objs.size) (fun b o hb e => (sb9.2 b hb).trans e) pD.2.1 pD.2.2.1 (.inr (Nat.le_refl _)) (fun y' c e z => absurd (celt _ _ (hcl1 _ _ e)) (by rw [z]; exact Nat.lt_irrefl _)) fun p hp => ?_
          rcases List.mem_append.mp hp with hp | hp
          · exact (below _ (Heap.lt_size (I2.pin p hp).1)).2
          · exact nfp p hp
        refine again (σ9 := []) (zs := ys ++ [y]) (jts := its ++ [u8]) (k' := k + 1) (Ib.pins_of fun p hp => ?_) (r3.append (.cons r8 .nil)) (by rw [List.length_append]; exact zlt) q8
        rcases List.mem_append.mp hp with hp | hp
        · have ep : p = (s2.heap.objs.size, lobj (its ++ [u8]) (k + 1)) := by simpa using hp
          subst ep
          exact ⟨hD9, pD.2.1, pD.2.2.1, pD.2.2.2.1, fun v z => nomatch z⟩
        · exact Ib.pin p (List.mem_append_right _ hp)
  exact codeAny_compStart_list (loop _) (T.self _ 0 _ _ _ (T.keep _ _ _ st2 fun b _ o e => old b o e) (loop _))
theorem ps_setLC {X : Cx} (NB : List Str) {i : Nat} {x y : Str} {px py : Pos} {iter elt : Expr} {ifs : List Expr} {scope : Scope} {pos spos : Pos} {wi : TI} {tc : TT} {te : TE} (hc : X.calm = true) (hN : X.N.Nodup) (hi' : X.N[i]? = some y) (hy : X.env.scope.names.lookup y = some .local) (hi : PI X (.Name x px) iter wi)
    (ht : ∀ cl C s0 H0 fp pn, PTs (cxLCS X NB scope cl C x s0 H0 fp pn) ifs tc) (he : ∀ cl C s0 H0 fp pn, PE (cxLCS X NB scope cl C x s0 H0 fp pn) elt te) (hok : lcOkS X.N NB scope.names X.env.scope.names x = true) (hndB : NB.Nodup := by decide +kernel) (hkind : scope.kind = .function := by rfl)
    (hs : ∀ x, foldedSetIterable iter X.env x = pure x := by intro _; rfl) (hsw : swapsWith (.ListComp elt [⟨.Name x px, iter, ifs, 0⟩] scope pos) (some (.Name y py)) spos.line X.env = pure true := by rfl) :
    PS X (.Assign [.Name y py] (.ListComp elt [⟨.Name x px, iter, ifs, 0⟩] scope pos) spos) (tAsg (tLC wi tc te) (gName i)) := by
  unfold lcOkS lcOk at hok
  rw [Bool.and_eq_true, Bool.and_eq_true, Bool.and_eq_true, Bool.and_eq_true, List.all_eq_true, List.all_eq_true, List.all_eq_true, beq_iff_eq] at hok
  obtain ⟨⟨hl, hz⟩, h1, h2, h3⟩ := hok
  intro pins s σ H D I h
  rw [exec_Assign_Name_used _ _ _ _ hsw]
  refine wpAny_bind (wpAny_standAt (wpAny_bind ?_))
  show wpAny _ _ (do let _ ← comprehension (.ListComp elt [⟨.Name x px, iter, ifs, 0⟩] scope pos) scope X.env _ (newList []) false (eval iter X.env) (some (assign (.Name y py) X.env))) _ _ s
  refine wpAny_bind (wpAny_mono (lc_core NB (some (assign (.Name y py) X.env)) (fun _ s' => SP X pins D .next s') hc hi ht he hl (fun j z e => ?_) hndB (fun z hz => ?_) (by simpa using h2) (fun z hz e => ?_) (fun z hz => ?_) (fun z hz e => ?_) hkind hs I h fun Dd C s4 H4 m hm hsz hCL hCf hCc hCp hCn hInv hq => ?_)
    (fun _ s' hq => wpAny_pure (wpAny_pure hq)) fun _ _ e => e)
  · have hj : j < NB.length := (List.getElem?_eq_some_iff.mp e).1
    have hj' : j < X.N.length := by omega
    have hm : (z, X.N[j]) ∈ NB.zip X.N := by
      have : (NB.zip X.N)[j]? = some (z, X.N[j]) := by
        rw [List.getElem?_zip_eq_some]
        exact ⟨e, List.getElem?_eq_getElem hj'⟩
      exact List.mem_of_getElem? this
    have := hz _ hm
    rw [Bool.or_eq_true, beq_iff_eq, beq_iff_eq] at this
    rcases this with h | h
    · left
      rw [List.getElem?_eq_getElem hj']
      exact congrArg some (show X.N[j] = z from h.symm)
    · exact .inr h
  · simpa using h1 z hz
  · have := h3 z hz
    rw [e] at this
    simp at this
    exact this
  · have := h3 z hz
    intro z
    rw [z] at this
    simp at this
  · have := h3 z hz
    rw [e] at this
    simp at this
    exact this
  · have I4 : Inv X pins σ H4 s4 := hInv s4.heap ⟨rfl, fun _ _ => rfl⟩
    obtain ⟨oC, es, ep, hoC, hd, r⟩ := hm
    have I4' : Inv X (pins ++ [(C, oC)]) σ H4 s4 := I4.pins_of fun p hp => by
      rcases List.mem_append.mp hp with hp | hp
      · exact I4.pin p (List.mem_append_right _ hp)
      · have : p = (C, oC) := by simpa using hp
        subst this
        exact ⟨hoC, hCn, hCL, hCf, fun v z => by rw [hd] at z; cases z⟩
    show wpAny _ _ (assign (.Name y py) X.env (.ref Dd)) _ _ _
    refine wpAny_assign_Name (store_ok (v := .ref Dd) I4' hN hi' (.inl hy) rfl (fun s5 I5 => ?_) (.inr hy))
    have pC := I5.pin (C, oC) (List.mem_append_right _ (List.mem_append_right _ List.mem_cons_self))
    refine ⟨m, ⟨oC, es, ep, pC.1, hd, r⟩, fun h' sb => ⟨_, H4, ?_, hq⟩⟩
    exact (I5.pins_of fun p hp => I5.pin p (List.mem_append_right _ (List.mem_append_left _ hp))).turned (it := C) (fun b o hb e => (sb.2 b hb).trans e) hCn hCL (.inr hsz) (fun y' c e z => hCc y' c e z) hCp
end L2
set_option Elab.async false
set_option maxHeartbeats 4000000
namespace L2
open PySem PySem.Spec PyProof.Rows
/-- the block's context: the loop's names first, the names around it behind -/
def cxLCs (X : Cx) (scope : Scope) (cl : List (Str × Addr)) (C : Addr) (xs : List Str) (s0 : Shared) (H0 : Hp) (fp : List Addr) (pn : List (Addr × Obj)) : Cx :=
  { X with N := xs ++ X.N, s₀ := s0, H₀ := H0, env := compEnvC scope cl C X.env, outer := X.stack, stack := X.stack, ex := fp, fn := fun _ => false, pn := pn, xe := fun _ _ => False }
/-- no value yet for the n names -/
def blank (n : Nat) (σ : St) : St := List.replicate n none ++ σ
theorem blank_get {n i : Nat} {σ : St} {v : V} (h : (blank n σ)[i]? = some (some v)) : n ≤ i ∧ σ[i - n]? = some (some v) := by
  unfold blank at h
  by_cases c : i < n
  · rw [List.getElem?_append_left (by rw [List.length_replicate]; exact c), List.getElem?_replicate, if_pos c] at h
    cases h
  · rw [List.getElem?_append_right (by rw [List.length_replicate]; omega), List.length_replicate] at h
    exact ⟨by omega, h⟩
/-- what a comprehension with the readings g, tc, te wants of the iterator J -/
def LCwT (n : Nat) (J : It) (g : TG) (tc : TT) (te : TE) (σ : St) (H1 : Hp) (Q : VK) : Prop := ∃ W : Nat → Nat → List V → Hp → Prop, (∃ m, W 0 m [] H1) ∧ ∀ i m ys H, W i m ys H →
  (J.stop i H ∧ ∀ p, H p = none → Q (.ref p) (upd H p (.lst ys))) ∨
  (J.go i H ∧ ys.length < sizeLine ∧ ∃ N : List V → Hp → Prop, (∀ zs H', N zs H' → ∃ m', m' < m ∧ W (i + 1) m' zs H') ∧ ∀ x H', J.yld i H x H' → g x (blank n σ) H' fun σ2 H1 => (∃ vs : List V, vs.length = n ∧ σ2 = vs.map some ++ σ) ∧ tc σ2 H1 fun c H2 =>
    if c = true then te σ2 H2 fun y H3 => N (ys ++ [y]) H3 else N ys H2)
def tLCT (n : Nat) (wi : TI) (g : TG) (tc : TT) (te : TE) : TE := fun σ H Q => wi σ H fun J H1 => LCwT n J g tc te σ H1 Q
theorem pe_lcT {X : Cx} {xs : List Str} {tg : Expr} {g : TG} {iter elt : Expr} {ifs : List Expr} {scope : Scope} {pos : Pos} {wi : TI} {tc : TT} {te : TE} (hc : X.calm = true) (hnd : X.N.Nodup) (hi : PI X tg iter wi) (hg : ∀ cl C s0 H0 fp pn, PG (cxLCs X scope cl C xs s0 H0 fp pn) tg g)
    (ht : ∀ cl C s0 H0 fp pn, PTs (cxLCs X scope cl C xs s0 H0 fp pn) ifs tc) (he : ∀ cl C s0 H0 fp pn, PE (cxLCs X scope cl C xs s0 H0 fp pn) elt te)
    (hN : ∀ y ∈ X.N, scope.names.lookup y ≠ some .local) 
    (hfree : ∀ y ∈ scope.names, y.2 = .free → X.env.kindOf y.1 = some .cell) (hcell : ∀ y ∈ scope.names, y.2 ≠ .cell)
    (hnames : ∀ y ∈ scope.names, y.2 = .local → scope.names.lookup y.1 = some .local) (hkind : scope.kind = .function := by rfl)
    (hs : ∀ x, foldedSetIterable iter X.env x = pure x := by intro _; rfl) : PE X (.ListComp elt [⟨tg, iter, ifs, 0⟩] scope pos) (tLCT xs.length wi g tc te) := by
  intro pins s σ H Q I h
  obtain ⟨cl, hclos, hcl1, hcl2⟩ := closureFor_ok (env := X.env) (scope := scope) fun n hn => I.ok.has n (.inl (hfree (n, .free) hn rfl))
  rw [eval_ListComp]
  refine wpAny_comprehension_free (use := none) rfl hs hclos hkind hnames (thn (hi pins s σ H _ I h) fun xv s1 h1 => thn h1 fun itv s2 h2 => ?_)
  obtain ⟨it, fp, tn, J, H2, e, I2, T, st2, f2, W, ⟨m0, w0⟩, turn⟩ := h2
  subst e
  refine wpAny_newObj_type (wpAny_newFunctionEnv hcell (by intro y hy; simp at hy) (fun h₁ hns₁ hsb₁ => ?_) hkind)
  dsimp only at hns₁ hsb₁ ⊢
  generalize hH2 : s2.heap.push { cls := .type "list", dict := none, data := .seq ([] : List Value).toArray } = HH at hns₁ hsb₁ ⊢
  have hC : HH.objs.size = s2.heap.objs.size + 1 := by rw [← hH2, Heap.size_push]
  have hDC : s2.heap.objs.size ≠ HH.objs.size := by rw [hC]; exact Nat.ne_of_lt (Nat.lt_succ_self _)
  have below : ∀ b, b < s2.heap.objs.size → b ≠ HH.objs.size ∧ b ≠ s2.heap.objs.size := fun b hb => ⟨by rw [hC]; exact Nat.ne_of_lt (Nat.lt_succ_of_lt hb), Nat.ne_of_lt hb⟩
  have old : ∀ b o, s2.heap.get? b = some o → h₁.get? b = some o := fun b o e => hsb₁.extBut b o (below b (Heap.lt_size e)).1 (Heap.get?_push_of_some _ (hH2 ▸ Heap.get?_push_of_some _ e))
  have hacc : h₁.get? s2.heap.objs.size = some (lobj [] 0) := hsb₁.extBut _ _ hDC (Heap.get?_push_of_some _ (hH2 ▸ Heap.get?_push_size _ rfl))
  have hfpo := T.obj 0 _ st2
  have hfplt : ∀ b ∈ fp, b < s2.heap.objs.size := fun b hb => by
    obtain ⟨o, e, _⟩ := hfpo b hb
    exact Heap.lt_size e
  have stl : ∀ b ∈ frs X.stack, b < s2.heap.objs.size := fun b hb => by
    obtain ⟨_, o, ho, _⟩ := I2.stack.mem hb
    exact Heap.lt_size ho
  have celt : ∀ y c, X.env.cells.lookup y = some c → c < s2.heap.objs.size := fun y c e => by
    obtain ⟨v, q⟩ := I2.cell y c e
    exact q.lt
  have hpf : ∀ p ∈ X.pn ++ pins, p.1 ∉ frs X.stack := fun p hp z => by
    obtain ⟨_, _, n1, n2, _⟩ := I2.pin p hp
    rcases List.mem_cons.mp (I2.stkSub _ z) with q | q
    · exact n1 q
    · exact n2 q
  -- the block's context
  have okX : (cxLCs X scope cl HH.objs.size xs s2 H2 fp (X.pn ++ pins)).Ok := by
    refine ⟨I2.ok.mod, hkind, I2.ok.glob, I2.ok.blt, ?_, fun y z c e1 e2 => I2.ok.inj y z c (hcl1 _ _ e1) (hcl1 _ _ e2), fun y hy => ?_, fun y c hf => (nomatch hf), I2.ok.hd, I2.ok.frames, .inl rfl, fun b hb => ?_, I2.bs, ?_, fun b o e hb => ?_, fun b hb => ?_, I2.stack, I2.stkFree⟩
    · show s2.heap.objs.size ≤ HH.objs.size
      rw [hC]; exact Nat.le_succ _
    · have hy' : (relabel scope X.env).names.lookup y = some .cell ∨ (relabel scope X.env).names.lookup y = some .free := hy
      rw [names_relabel] at hy'
      have : scope.names.lookup y = some .free := by
        cases q : scope.names.lookup y with
        | none => rw [q] at hy'; rcases hy' with z | z <;> cases z
        | some k =>
          have hm := PySem.mem_of_lookup q
          rw [q] at hy'
          have hk : gRel X.env y k = .cell ∨ gRel X.env y k = .free := by simpa using hy'
          unfold gRel at hk
          split at hk
          · rename_i c
            simp at c
            rw [c.1.1]
          · rcases hk with z | z
            · exact absurd z (hcell _ hm)
            · rw [z]
      exact hcl2 y (PySem.mem_of_lookup this)
    · refine ⟨?_, fun y c e z => (f2 b hb).2.2.2.2.1 y c (hcl1 _ _ e) z⟩
      exact (below b (hfplt b hb)).1
    · exact Nat.le_trans I2.ok.bsz I2.sz
    · have := (I2.bs b o e).2
      rcases (f2 b hb).2.2.2.1 with z | z
      · exact I2.ok.noex b o e z
      · exact absurd (Nat.lt_of_lt_of_le (Heap.lt_size (I2.ok.bs b o e).1) z) (Nat.lt_irrefl _)
    · intro z
      rcases List.mem_cons.mp (I2.stkSub _ z) with q | q
      · exact (f2 b hb).2.1 q
      · exact (f2 b hb).2.2.1 q
  have start : ∀ t, Inv (cxLCs X scope cl HH.objs.size xs s2 H2 fp (X.pn ++ pins)) [(s2.heap.objs.size, lobj [] 0)] (blank xs.length σ) H2 { s2 with heap := h₁, toks := t } := fun t => by
    refine ⟨okX, rfl, I2.bare, Un.kept old, ⟨_, hns₁, fun i y v e1 e2 e3 => ?_⟩, fun y c e => ?_, I2.hok.fresh (by show s2.heap.objs.size ≤ HH.objs.size; rw [hC]; exact Nat.le_succ _), fun y c e => I2.freeC y c (hcl1 _ _ e), fun p hp => ?_, I2.hok.kept old, ?_⟩
    · obtain ⟨hni, e2'⟩ := blank_get e2
      have e1' : X.N[i - xs.length]? = some y := by
        rw [← List.getElem?_append_right hni]; exact e1
      · generalize i - xs.length = j at e1' e2'
        have hyN : y ∈ X.N := List.mem_of_getElem? e1'
        have e3' : Vis (relabel scope X.env) y := e3
        unfold Vis at e3'
        rw [names_relabel] at e3'
        cases q : scope.names.lookup y with
        | none => rw [q] at e3'; rcases e3' with z | z | z <;> cases z
        | some k =>
          have hm := PySem.mem_of_lookup q
          rw [q] at e3'
          have kf : k = .free := by
            have hk : gRel X.env y k = .local ∨ gRel X.env y k = .cell ∨ gRel X.env y k = .free := by simpa using e3'
            unfold gRel at hk
            split at hk
            · rename_i c; simp at c; exact c.1.1
            · rcases hk with z | z | z
              · exact absurd (q.trans (congrArg some z)) (hN y hyN)
              · exact absurd z (hcell _ hm)
              · exact z
          subst kf
          have kc := hfree _ hm rfl
          obtain ⟨m, hn, hl⟩ := I2.loc
          obtain ⟨u, ru, lk⟩ := hl j y v e1' e2' (.inr (.inl kc))
          refine ⟨u, ru, ?_⟩
          rcases lk with ⟨z, _⟩ | ⟨_, c, ec, hcell'⟩
          · rw [kc] at z; cases z
          · obtain ⟨c', ec'⟩ := hcl2 y hm
            have : c' = c := by have z := hcl1 _ _ ec'; rw [ec] at z; exact (Option.some.inj z).symm
            subst this
            refine .inr ⟨.inl ?_, c', ec', ?_⟩
            · show (relabel scope X.env).names.lookup y = some .cell
              rw [names_relabel, q]
              show some (gRel X.env y .free) = _
              unfold gRel
              rw [I2.ok.kind, kc]; rfl
            · obtain ⟨o, ho, hd⟩ := hcell'
              exact ⟨o, old _ _ ho, hd⟩
    · obtain ⟨v, o, ho, hd⟩ := I2.cell y c (hcl1 _ _ e)
      exact ⟨v, o, old _ _ ho, hd⟩
    · rcases List.mem_append.mp hp with hp | hp
      · obtain ⟨a1, a2, a3, a4, a5⟩ := I2.pin p hp
        exact ⟨old _ _ a1, a2, (below _ (Heap.lt_size a1)).1, hpf p hp, a5⟩
      · have ep : p = (s2.heap.objs.size, lobj [] 0) := by simpa using hp
        subst ep
        exact ⟨hacc, I2.hok.fresh (Nat.le_refl _), hDC, fun z => absurd (stl _ z) (Nat.lt_irrefl _), fun v z => nomatch z⟩
    · show (blank xs.length σ).length = (xs ++ X.N).length
      rw [blank, List.length_append, List.length_append, List.length_replicate, I2.len]
  have fpo : ∀ {H' : Hp} {pl : List (Addr × Obj)}, (∀ b ∈ fp, H' b = none) → (∀ p ∈ pl, p.1 = s2.heap.objs.size) → ∀ b ∈ fp, FpOk (cxLCs X scope cl HH.objs.size xs s2 H2 fp (X.pn ++ pins)) pl H' b := fun hn hpl b hb => by
    obtain ⟨_, a2, a3, a4, a5, a6⟩ := f2 b hb
    refine ⟨hn b hb, (below b (hfplt b hb)).1, fun z => ?_, .inl hb, fun y c e z => a5 y c (hcl1 _ _ e) z, fun p hp z => ?_⟩
    · rcases List.mem_cons.mp (I2.stkSub _ z) with q | q
      · exact a2 q
      · exact a3 q
    · rcases List.mem_append.mp hp with hp | hp
      · exact a6 p hp z
      · have := hpl p hp
        rw [this] at z
        exact (below b (hfplt b hb)).2 z.symm
  have loop : ∀ t, codeAny (model X.prog X.w) X.A (.compLoop (.ListComp elt [⟨tg, iter, ifs, 0⟩] scope pos) 0 (.ref it) (.ref s2.heap.objs.size) (compEnvC scope cl HH.objs.size X.env))
      (compPost (model X.prog X.w) X.A X.xe none (EP X pins σ Q) (.ref s2.heap.objs.size) HH.objs.size) { s2 with heap := h₁, toks := t } := fun t => by
    refine compLoop_own (fun n s' => ∃ i ys its k H', Inv (cxLCs X scope cl HH.objs.size xs s2 H2 fp (X.pn ++ pins)) [(s2.heap.objs.size, lobj its k)] (blank xs.length σ) H' s' ∧ Vals ys its ∧ ys.length ≤ sizeLine ∧ tn i s'.heap ∧ (∀ b ∈ fp, H' b = none) ∧ W i n ys H') ?_ m0
      ⟨0, [], [], 0, H2, start t, .nil, Nat.zero_le _, T.keep _ _ _ st2 fun b _ o e => old b o e, fun b hb => (f2 b hb).1, w0⟩
    rintro n s3 ⟨i, ys, its, k, H3, I3, r3, z3, st3, fr3, w3⟩
    have hone : ∀ p ∈ [(s2.heap.objs.size, lobj its k)], p.1 = s2.heap.objs.size := fun p hp => by
      have : p = (s2.heap.objs.size, lobj its k) := by simpa using hp
      rw [this]
    rcases turn i n ys H3 w3 with ⟨stop, qn⟩ | ⟨go, zlt, NN, hNN, step⟩
    · refine thn (T.done (cxLCs X scope cl HH.objs.size xs s2 H2 fp (X.pn ++ pins)) rfl rfl rfl hc i _ s3 (blank xs.length σ) H3 (fun _ _ => False) I3 (fpo fr3 hone) st3 stop) fun r s4 ⟨hr, I4⟩ => ?_
      subst hr
      obtain ⟨m, hm, _⟩ := I4.loc
      refine ⟨m, hm, fun h' sb => ?_⟩
      have pD := I4.pin (s2.heap.objs.size, lobj its k) (List.mem_append_right _ List.mem_cons_self)
      have gD : h'.get? s2.heap.objs.size = some (lobj its k) := (sb.2 _ hDC).trans pD.1
      refine ⟨.ref s2.heap.objs.size, upd H3 s2.heap.objs.size (.lst ys), I2.call' (ch := fp) (I4.os) (Un.late I4.base (fun b q e => I2.hok.lt e) (Nat.le_refl _) fun b hb => sb.2 b (below b hb).1) (fun b u e => ?_) I4.bare (fun b hb => ?_), rfl, qn _ pD.2.1⟩
      · by_cases hb : b = s2.heap.objs.size
        · subst hb
          rw [upd_same] at e
          cases e
          exact ⟨z3, its, k, r3, gD⟩
        · rw [upd_ne hb] at e
          refine (I4.hok b u e).stay (fun c v hcc q => (sb.2 c ?_).trans q) (fun c q => ?_) fun c xs q => ?_
          · rintro rfl
            have fr := I4.free
            rcases hcc with z | z
            · rw [← z] at e; rw [show (cxLCs X scope cl HH.objs.size xs s2 H2 fp (X.pn ++ pins)).env.locals = HH.objs.size from rfl] at fr; rw [fr] at e; cases e
            · rw [show (cxLCs X scope cl HH.objs.size xs s2 H2 fp (X.pn ++ pins)).env.locals = HH.objs.size from rfl] at fr; rw [fr] at z; cases z
          · rw [upd_ne (ne_of_none q pD.2.1)]; exact q
          · rw [upd_ne (ne_of_none q pD.2.1)]; exact q
      · obtain ⟨_, a2, _, a4, a5, a6⟩ := f2 b hb
        exact ⟨a4, a2, a5, a6⟩
    · refine thn (T.item (cxLCs X scope cl HH.objs.size xs s2 H2 fp (X.pn ++ pins)) rfl rfl rfl hc i _ s3 (blank xs.length σ) H3 (fun _ _ => False) I3 (fpo fr3 hone) st3 go) fun r s4 ⟨u, hr, h4⟩ => ?_
      subst hr
      refine thn h4 fun _ s5 ⟨v, H5, I5, r5, y5, st5, fr5⟩ => ?_
      have I5' := I5.pinned (fpo fr5 hone) (T.obj _ _ st5)
      refine thn (hg cl HH.objs.size s2 H2 fp (X.pn ++ pins) _ s5 _ H5 v u _ I5' r5 (step v H5 y5)) fun _ s6 ⟨σ6, H6, I6', ⟨vs, hvs, e6⟩, step6⟩ => ?_
      subst e6
      refine thn (ht cl HH.objs.size s2 H2 fp (X.pn ++ pins) _ s6 _ H6 _ I6' step6) fun c s7 ⟨H7, I7, q7⟩ => ?_
      -- what the block's state says of the iterator and the list
      have again : ∀ {H9 : Hp} {s9 : Shared} {σ9 : St} {zs : List V} {jts : List Value} {k' : Nat}, Inv (cxLCs X scope cl HH.objs.size xs s2 H2 fp (X.pn ++ pins)) ([(s2.heap.objs.size, lobj jts k')] ++ pinsAt fp s5.heap) (vs.map some ++ σ) H9 s9 → Vals zs jts → zs.length ≤ sizeLine → NN zs H9 →
          ∃ m, m < n ∧ ∃ i ys its k H', Inv (cxLCs X scope cl HH.objs.size xs s2 H2 fp (X.pn ++ pins)) [(s2.heap.objs.size, lobj its k)] (blank xs.length σ) H' s9 ∧ Vals ys its ∧ ys.length ≤ sizeLine ∧ tn i s9.heap ∧ (∀ b ∈ fp, H' b = none) ∧ W i m ys H' := fun {H9 s9 σ9 zs jts k'} I9 r9 z9 n9 => by
        obtain ⟨m', hm, w9⟩ := hNN zs H9 n9
        refine ⟨m', hm, i + 1, zs, jts, k', H9, (I9.unpinned.weak (σ' := blank xs.length σ) (by rw [blank, List.length_append, List.length_append, List.length_replicate, List.length_map, hvs]) fun j v' e => ?_), r9, z9, T.keep _ _ _ st5 fun b hb o e => (I9.pin (b, o) (List.mem_append_right _ (List.mem_append_right _ (mem_pinsAt hb e)))).1, fun b hb => ?_, w9⟩
        · obtain ⟨hni, e'⟩ := blank_get e
          rw [List.getElem?_append_right (by rw [List.length_map, hvs]; exact hni), List.length_map, hvs]
          exact e'
        · obtain ⟨o, e, d⟩ := T.obj _ _ st5 b hb
          exact (I9.pin (b, o) (List.mem_append_right _ (List.mem_append_right _ (mem_pinsAt hb e)))).2.1
      cases c with
      | false =>
        simp only [Bool.false_eq_true, if_false] at q7 ⊢
        exact again (σ9 := []) I7 r3 z3 q7
      | true =>
        simp only [if_true] at q7 ⊢
        refine thn (he cl HH.objs.size s2 H2 fp (X.pn ++ pins) _ s7 _ H7 _ I7 q7) fun u8 s8 ⟨y, H8, I8, r8, q8⟩ => ?_
        have pD := I8.pin (s2.heap.objs.size, lobj its k) (List.mem_append_right _ (List.mem_append_left _ List.mem_cons_self))
        refine append_at (hsz := by rw [List.size_toArray, ← r3.length]; exact z3) pD.1 fun h9 sb9 hD9 => ?_
        have e9 : ({ cls := .type "list", data := .seq (its.toArray.push u8) (k + 1) } : Obj) = lobj (its ++ [u8]) (k + 1) := by
          show _ = ({ cls := .type "list", data := .seq (its ++ [u8]).toArray (k + 1) } : Obj)
          rw [List.push_toArray]
        rw [e9] at hD9
        have Ia : Inv (cxLCs X scope cl HH.objs.size xs s2 H2 fp (X.pn ++ pins)) (pinsAt fp s5.heap) (vs.map some ++ σ) H8 s8 := I8.pins_of fun p hp => I8.pin p (List.mem_append_right _ (List.mem_append_right _ hp))
        have nfp : ∀ p ∈ pinsAt fp s5.heap, p.1 ≠ s2.heap.objs.size := fun p hp => (below _ (hfplt _ (of_pinsAt hp).1)).2
        have Ib : Inv (cxLCs X scope cl HH.objs.size xs s2 H2 fp (X.pn ++ pins)) (pinsAt fp s5.heap) (vs.map some ++ σ) H8 { s8 with heap := h9, toks := s8.toks } := by
          refine Ia.turned (it := s2.heap.objs.size) (fun b o hb e => (sb9.2 b hb).trans e) pD.2.1 pD.2.2.1 (.inr (Nat.le_refl _)) (fun y' c e z => absurd (celt _ _ (hcl1 _ _ e)) (by rw [z]; exact Nat.lt_irrefl _)) fun p hp => ?_
          rcases List.mem_append.mp hp with hp | hp
          · exact (below _ (Heap.lt_size (I2.pin p hp).1)).2
          · exact nfp p hp
        refine again (σ9 := []) (zs := ys ++ [y]) (jts := its ++ [u8]) (k' := k + 1) (Ib.pins_of fun p hp => ?_) (r3.append (.cons r8 .nil)) (by rw [List.length_append]; exact zlt) q8
        rcases List.mem_append.mp hp with hp | hp
        · have ep : p = (s2.heap.objs.size, lobj (its ++ [u8]) (k + 1)) := by simpa using hp
          subst ep
          exact ⟨hD9, pD.2.1, pD.2.2.1, pD.2.2.2.1, fun v z => nomatch z⟩
        · exact Ib.pin p (List.mem_append_right _ hp)
  exact codeAny_compStart_list (loop _) (T.self _ 0 _ _ _ (T.keep _ _ _ st2 fun b _ o e => old b o e) (loop _))
def lcOkT (N : List Str) (names outer : List (Str × NameKind)) : Bool :=
  N.all (fun y => names.lookup y != some .local) && (names.all fun y => (y.2 != .free || outer.lookup y.1 == some .cell) && (y.2 != .cell && (y.2 != .local || names.lookup y.1 == some .local)))
theorem pe_lcTB {X : Cx} (xs : List Str) {tg : Expr} {g : TG} {iter elt : Expr} {ifs : List Expr} {scope : Scope} {pos : Pos} {wi : TI} {tc : TT} {te : TE} (hc : X.calm = true) (hnd : X.N.Nodup) (hi : PI X tg iter wi) (hg : ∀ cl C s0 H0 fp pn, PG (cxLCs X scope cl C xs s0 H0 fp pn) tg g)
    (ht : ∀ cl C s0 H0 fp pn, PTs (cxLCs X scope cl C xs s0 H0 fp pn) ifs tc) (he : ∀ cl C s0 H0 fp pn, PE (cxLCs X scope cl C xs s0 H0 fp pn) elt te) (hok : lcOkT X.N scope.names X.env.scope.names = true) (hkind : scope.kind = .function := by rfl)
    (hs : ∀ x, foldedSetIterable iter X.env x = pure x := by intro _; rfl) : PE X (.ListComp elt [⟨tg, iter, ifs, 0⟩] scope pos) (tLCT xs.length wi g tc te) := by
  unfold lcOkT at hok
  rw [Bool.and_eq_true, List.all_eq_true, List.all_eq_true] at hok
  obtain ⟨h1, h3⟩ := hok
  refine pe_lcT hc hnd hi hg ht he (fun y hy => ?_) (fun y hy e => ?_) (fun y hy => ?_) (fun y hy e => ?_) hkind hs
  · simpa using h1 y hy
  · have := h3 y hy
    rw [e] at this
    simp at this
    exact this
  · have := h3 y hy
    intro e
    rw [e] at this
    simp at this
  · have := h3 y hy
    rw [e] at this
    simpa using this
/-- the two names of the block -/
theorem pg_pair {X : Cx} {scope : Scope} {cl : List (Str × Addr)} {C : Addr} {x y : Str} {s0 : Shared} {H0 : Hp} {fp : List Addr} {pn : List (Addr × Obj)} {px py pos : Pos} {k : Nat} (hnd : (x :: y :: X.N).Nodup) (hc : X.calm = true) (hx : scope.names.lookup x = some .local) (hy : scope.names.lookup y = some .local) :
    PG (cxLCs X scope cl C [x, y] s0 H0 fp pn) (.Tuple [.Name x px, .Name y py] k pos) (gTup X.K 2 (gCons (gName 0) (gCons (gName 1) gNil))) := by
  have lx : (cxLCs X scope cl C [x, y] s0 H0 fp pn).env.scope.names.lookup x = some .local := by
    show (relabel scope X.env).names.lookup x = _
    rw [names_relabel, hx]; rfl
  have ly : (cxLCs X scope cl C [x, y] s0 H0 fp pn).env.scope.names.lookup y = some .local := by
    show (relabel scope X.env).names.lookup y = _
    rw [names_relabel, hy]; rfl
  exact pg_tup (X := cxLCs X scope cl C [x, y] s0 H0 fp pn) hc (pgs_cons (pg_name (i := 0) hnd rfl (.inl lx) (.inr lx)) (pgs_cons (pg_name (i := 1) hnd rfl (.inl ly) (.inr ly)) pgs_nil))
end L2
set_option Elab.async false
set_option maxHeartbeats 4000000
set_option maxRecDepth 100000
namespace L2
open PySem PySem.Spec PyProof.Rows
theorem vals_strs : ∀ l : List (Str × Tok), Vals ((l.map (·.1)).map V.str) (strValues l)
  | [] => .nil
  | p :: r => .cons ⟨p.2, rfl⟩ (vals_strs r)
theorem split_call {prog : Program} {w : World} {A : Around} {E : Value → Shared → Prop} {s : Shared} {x y : Str} {t u : Tok} {Q : Value → Shared → Prop} (hy : (y.length == 0) = false)
    (h : ∀ (l : List (Str × Tok)) (k : Nat), l.map (·.1) = Txt.split x y → Q (.ref s.heap.objs.size) { s with heap := s.heap.push { cls := .type "list", data := .seq (strValues l).toArray }, toks := k }) (hsz : x.length + 2 ≤ sizeLine) :
    wpAny (model prog w) A (call (.builtin "str.split") [.str x t, .str y u]) Q E s := by
  have hn : (Builtin.Str.partsBetween x (Builtin.Str.occurrences x y 0 x.length (x.length + 1)) y.length).length ≤ sizeLine := by
    have e1 := StrLaws.occ_length_le x y 0 x.length (x.length + 1)
    rw [length_partsBetween]; omega
  cases h1 : (decide (x.length < y.length) || decide (Builtin.Str.strKind x < Builtin.Str.strKind y))
  · cases hf : (Builtin.Str.occurrences x y 0 x.length (x.length + 1)).isEmpty
    · refine call_meets F.slot_str_split (typeIs_str _ _ _) F.entry_str_split (F.args_str_split_2 _ _) (meets_str_split_sep x y t u h1 hy hf (by omega) hn) ?_
      show wants Q E _ { s with toks := _, heap := s.heap.push { cls := .type "list", data := .seq (strsFrom s.toks (Builtin.Str.partsBetween x (Builtin.Str.occurrences x y 0 x.length (x.length + 1)) y.length)).toArray } }
      rw [strsFrom_eq]
      exact h (numbered s.toks _) _ ((numbered_texts _ _).trans ((if_neg (ne_true_of_eq_false h1)).trans (if_neg (ne_true_of_eq_false hf))).symm)
    · exact call_meets F.slot_str_split (typeIs_str _ _ _) F.entry_str_split (F.args_str_split_2 _ _) (meets_str_split_not_found x y t u h1 hy hf) (h [(x, t)] s.toks ((if_neg (ne_true_of_eq_false h1)).trans (if_pos hf)).symm)
  · exact call_meets F.slot_str_split (typeIs_str _ _ _) F.entry_str_split (F.args_str_split_2 _ _) (meets_str_split_cannot_occur x y t u h1) (h [(x, t)] s.toks (if_pos h1).symm)
section
variable {X : Cx}
def rSplit : V → List V → Hp → VK → Prop := fun x xs H Q => ∃ a b, x = .str a ∧ xs = [.str b] ∧ (b.length == 0) = false ∧ a.length + 2 ≤ sizeLine ∧ ∀ p, H p = none → Q (.ref p) (upd H p (.lst ((Txt.split a b).map V.str)))
theorem mt_split : MtR X "str.split" rSplit := by
  intro pins s σ H x xs v us Q I rx rv h
  obtain ⟨a, b, rfl, rfl, hb, hz, q⟩ := h
  obtain ⟨t, rfl⟩ := rx
  obtain ⟨w1, rfl, u, rfl⟩ := vals1 rv
  refine split_call hb (fun l k e => ?_) hz
  have nf : H s.heap.objs.size = none := I.hok.fresh (Nat.le_refl _)
  refine ⟨.ref s.heap.objs.size, upd H s.heap.objs.size (.lst ((Txt.split a b).map V.str)), I.laid (fun b u e => Heap.get?_push_of_some _ e) (Nat.le_refl _) ?_, rfl, q _ nf⟩
  refine ⟨by rw [List.length_map]; exact Nat.le_trans (split_le a b) hz, strValues l, 0, ?_, Heap.get?_push_size _ rfl⟩
  rw [← e]; exact vals_strs l
theorem strs_of : ∀ {ts : List Str} {us : List Value}, Vals (ts.map V.str) us → ∃ l : List (Str × Tok), strValues l = us ∧ l.map (·.1) = ts
  | [], _, .nil => ⟨[], rfl, rfl⟩
  | x :: ts, _, .cons ⟨t, e⟩ r => by
    obtain ⟨l, e1, e2⟩ := strs_of r
    subst e
    exact ⟨(x, t) :: l, by rw [← e1]; rfl, by rw [← e2]; rfl⟩
def rJoin (K : PySem.W.Frag) : V → List V → Hp → VK → Prop := fun x xs H Q => ∃ sep p ts, x = .str sep ∧ xs = [.ref p] ∧ SqL K H p (ts.map V.str) ∧ (ts.map (·.length)).sum + ts.length * sep.length ≤ 10000 ∧ Q (.str (Str.join sep ts)) H
theorem mt_join : MtR X "str.join" (rJoin X.K) := by
  intro pins s σ H x xs v us Q I rx rv h
  obtain ⟨sep, p, ts, rfl, rfl, hq, hz, q⟩ := h
  obtain ⟨t, rfl⟩ := rx
  obtain ⟨w1, rfl, e⟩ := vals1 rv
  cases e
  obtain ⟨its, r', pl, _⟩ := I.list hq
  obtain ⟨l, rfl, rfl⟩ := strs_of r'
  have hl : Builtin.Str.tooLong ((l.map (·.1)).toArray.foldl (· + ·.length + sep.length) 0) = false := by
    rw [StrLaws.joinTotal]
    have : ¬ ((l.map (·.1)).map (·.length)).sum + (l.map (·.1)).length * sep.length > sizeLine := by
      have : 10000 ≤ sizeLine := by decide
      omega
    exact decide_eq_false this
  refine call_meets F.slot_str_join (typeIs_str _ _ _) F.entry_str_join (F.args_str_join_2 _ _) (meets_str_join_list sep t p l hl) ⟨pl.isList, ?_⟩
  have fin : ∀ tk t', wants (EP X pins σ Q) X.xe (.ok (.ret (.str (Builtin.Str.glued sep (l.map (·.1))) t'))) { s with toks := tk } := fun tk t' =>
    ⟨.str (Builtin.Str.glued sep (l.map (·.1))), H, I.tok _, ⟨_, rfl⟩, by rw [StrLaws.glued_eq_join]; exact q⟩
  have hz2 : (Builtin.Str.glued sep (l.map (·.1))).length ≤ sizeLine := joinFit_length hl
  match l, fin, hz2 with
  | [], fin, hz2 => exact ⟨hz2, fin _ _⟩
  | [a], fin, hz2 => exact fin s.toks a.2
  | a :: b :: r, fin, hz2 => exact ⟨hz2, fin _ _⟩
/-- int(text) -/
theorem call_intS : CallR X (.type "int") (fun xs H Q => ∃ x n, xs = [.str x] ∧ PySem.intText? x = some n ∧ x.length ≤ 640 ∧ Q (.int n) H) := by
  intro pins s σ H xs us Q I r h
  obtain ⟨x, n, rfl, hn, hl, q⟩ := h
  obtain ⟨w1, rfl, u, rfl⟩ := vals1 r
  exact PySem.W.KIN.call_text hn hl ⟨.int n, H, I.tok _, ⟨_, rfl⟩, q⟩
/-- all(..) of a list of True and False -/
theorem call_allB (hc : X.calm = true) : CallR X (.builtin "all") (fun xs H Q => ∃ (p : Addr) (bs : List Bool), xs = [.ref p] ∧ SqL X.K H p (bs.map V.bl) ∧ Q (.bl (bs.all id)) H) := by
  intro pins s σ H xs us Q I r h
  obtain ⟨p, bs, rfl, hq, q⟩ := h
  obtain ⟨w1, rfl, e⟩ := vals1 r
  cases e
  obtain ⟨its, r', pl, _⟩ := I.list hq
  obtain ⟨ol, hol, _⟩ := id pl.isList
  refine call_all_walk (wpAny_pyIter_list pl.isList ?_)
  have ne : p ≠ s.heap.objs.size := Nat.ne_of_lt (Heap.lt_size hol)
  refine ⟨s.heap.objs.size, _, _, _, _, _, fun i => (bs[i]?).getD true, rfl, Walks.list (A := X.A.in1) (I.ok.hd hc) _ p ne its.toArray, ⟨⟨_, Heap.get?_push_size _ rfl, rfl, rfl⟩, Heap.IsList.push pl.isList _⟩, ?_, fun h' tk hk => ?_⟩
  · intro i v s' Q' E' hP hQ'
    have hv : its[i]? = some v := by simpa using hP
    have hi : i < bs.length := by
      have := (List.getElem?_eq_some_iff.mp hv).1
      have l := r'.length
      rw [List.length_map] at l
      omega
    obtain ⟨u, hu, ru⟩ := r'.get (show (bs.map V.bl)[i]? = some (.bl bs[i]) by rw [List.getElem?_map, List.getElem?_eq_getElem hi]; rfl)
    rw [hv] at hu
    cases hu
    obtain rfl : v = Value.bool bs[i] := ru
    have hQ2 : Q' ((bs[i]?).getD true) s' := hQ'
    rw [List.getElem?_eq_getElem hi] at hQ2
    exact wpAny_truthy_bool hQ2
  · have e : (List.range its.toArray.size).all (fun i => (bs[i]?).getD true) = bs.all id := by
      have l := r'.length
      rw [List.length_map] at l
      rw [List.size_toArray, ← l, Bool.eq_iff_iff, List.all_eq_true, List.all_eq_true]
      constructor
      · intro z b hb
        obtain ⟨i, hi, e⟩ := List.getElem_of_mem hb
        have := z i (List.mem_range.mpr hi)
        rw [List.getElem?_eq_getElem hi, e] at this
        exact this
      · intro z i hi
        have hi' := List.mem_range.mp hi
        rw [List.getElem?_eq_getElem hi']
        exact z _ (List.getElem_mem hi')
    rw [e]
    refine ⟨.bl (bs.all id), H, ?_, rfl, q⟩
    exact I.kept fun b o z => hk b o (by
      intro m
      have : b = s.heap.objs.size := by simpa using m
      rw [this] at z
      exact absurd (Heap.lt_size z) (Nat.lt_irrefl _)) (Heap.get?_push_of_some _ z)
end
def Its (z : Str) : It :=
  ⟨fun i _ => i < z.length, fun i H x H' => ∃ c, z.cps[i]? = some c ∧ x = .str ⟨#[c]⟩ ∧ H' = H, fun i _ => z.length ≤ i⟩
theorem turn_str {P : Program} {w : World} {K : PySem.W.Frag} {tg : Expr} (z : Str) (t : Tok) (it : Addr) : Turn P w K tg (Its z) [it] it (fun i h => h.IsStrIter it "str_ascii_iterator" z t i) where
  mem := by simp
  obj := fun i h st b hb => by
    have e : b = it := by simpa using hb
    subst e
    obtain ⟨o, e, c, d⟩ := st
    exact ⟨o, e, fun v z => by rw [d] at z; cases z⟩
  keep := fun i h h' st k => by
    obtain ⟨o, e, r⟩ := st
    exact ⟨o, k it (by simp) o e, r⟩
  item := by
    intro X hP hw hK hc i pins s σ H E I hf st hg
    subst hP hw hK
    obtain ⟨f0, f1, f2, f3, f4, f5⟩ := hf it (by simp)
    have hg' : i < z.cps.size := hg
    refine wpAny_pyNext_ascii_item st (Array.getElem?_eq_getElem hg') fun h' st' sb => ?_
    have I1 : Inv X pins σ H { s with heap := h', toks := s.toks + 1 } := I.turned (fun b o hb e => (sb.2 b hb).trans e) f0 f1 f3 f4 f5
    obtain ⟨o, e, c, d⟩ := id st'
    exact ⟨_, rfl, go_of (s := { s with heap := h', toks := s.toks + 1 }) e c d (by decide) ⟨.str ⟨#[z.cps[i]]⟩, H, I1, ⟨_, rfl⟩, ⟨_, Array.getElem?_eq_getElem hg', rfl, rfl⟩, st', fun b hb => (hf b hb).1⟩⟩
  done := by
    intro X hP hw hK hc i pins s σ H E I hf st hg
    subst hP hw hK
    obtain ⟨f0, f1, f2, f3, f4, f5⟩ := hf it (by simp)
    have hg' : z.cps.size ≤ i := hg
    exact wpAny_pyNext_ascii_end (I.ok.hd hc) st (Array.getElem?_eq_none hg') fun h' eb => ⟨rfl, I.turned (t' := s.toks) (fun b o hb e => eb b o hb e) f0 f1 f3 f4 f5⟩
  self := fun _ _ _ _ _ st h => wpAny_pyIter_striter_ascii st h
def iStr (te : TE) : TI := fun σ H R => te σ H fun x H1 => ∃ z, x = .str z ∧ z.cps.all (· < 128) = true ∧ R (Its z) H1
theorem pi_str {X : Cx} {tg e : Expr} {te : TE} (he : PE X e te) : PI X tg e (iStr te) := by
  intro pins s σ H R I h
  refine thn (he pins s σ H _ I h) fun v s1 ⟨x, H1, I1, rx, z, ex, ha, q⟩ => ?_
  subst ex
  obtain ⟨t, rfl⟩ := rx
  refine wpAny_pyIter_ascii ha ?_
  refine ⟨s1.heap.objs.size, [s1.heap.objs.size], _, _, H1, rfl, I1.kept (t' := s1.toks) (fun b o e => Heap.get?_push_of_some _ e), turn_str z t s1.heap.objs.size, ⟨_, Heap.get?_push_size _ rfl, rfl, rfl⟩, fun b hb => ?_, q⟩
  have e : b = s1.heap.objs.size := by simpa using hb
  subst e
  exact I1.fpOk (Nat.le_refl _) (I1.hok.fresh (Nat.le_refl _))
def Itz (K : PySem.W.Frag) (a b : Addr) : It :=
  ⟨fun i H => ∃ xs ys x y, SqL K H a xs ∧ SqL K H b ys ∧ xs[i]? = some x ∧ ys[i]? = some y, fun i H x H' => ∃ p u v, H p = none ∧ x = .ref p ∧ H' = upd H p (.tup [u, v]) ∧ (∀ xs, SqL K H a xs → xs[i]? = some u) ∧ ∀ ys, SqL K H b ys → ys[i]? = some v,
    fun i H => ∃ xs ys, SqL K H a xs ∧ SqL K H b ys ∧ xs.length ≤ i⟩
theorem turn_zip {P : Program} {w : World} {K : PySem.W.Frag} {es : List Expr} {kk : Nat} {tp : Pos} (a b z TI TO i1 i2 : Addr) (D0 : TI ≠ z ∧ TO ≠ z ∧ i1 ≠ z ∧ i2 ≠ z ∧ TI ≠ TO ∧ TI ≠ i1 ∧ TI ≠ i2 ∧ TO ≠ i1 ∧ TO ≠ i2 ∧ i1 ≠ i2) (Da : ∀ c ∈ [z, TO, i1, i2], a ≠ c ∧ b ≠ c) :
    Turn P w K (.Tuple es kk tp) (Itz K a b) [z, TI, TO, i1, i2] z (fun i h => IsZip h z TI TO .none ∧ IsPair h TI (.ref i1) (.ref i2) ∧ (∃ u v, IsPair h TO u v) ∧ h.IsListIter i1 a i ∧ h.IsListIter i2 b i) where
  mem := by simp
  obj := fun i h st c hc => by
    obtain ⟨hz, hTI, ⟨u, v, hTO⟩, ⟨o1, e1, c1, d1⟩, o2, e2, c2, d2⟩ := st
    simp only [List.mem_cons, List.not_mem_nil, or_false] at hc
    rcases hc with rfl | rfl | rfl | rfl | rfl
    · exact ⟨_, hz, fun v z => nomatch z⟩
    · exact ⟨_, hTI, fun v z => nomatch z⟩
    · exact ⟨_, hTO, fun v z => nomatch z⟩
    · exact ⟨o1, e1, fun v z => by rw [d1] at z; cases z⟩
    · exact ⟨o2, e2, fun v z => by rw [d2] at z; cases z⟩
  keep := fun i h h' st k => by
    obtain ⟨hz, hTI, ⟨u, v, hTO⟩, h1, h2⟩ := st
    exact ⟨k z (by simp) _ hz, k TI (by simp) _ hTI, ⟨u, v, k TO (by simp) _ hTO⟩, h1.at fun o e => k i1 (by simp) o e, h2.at fun o e => k i2 (by simp) o e⟩
  item := by
    intro X hP hw hK hc i pins s σ H E I hf st hg
    subst hP hw hK
    obtain ⟨xs, ys, x, y, hqa, hqb, hx, hy⟩ := hg
    obtain ⟨its, rv, pa, _⟩ := I.list hqa
    obtain ⟨jts, rw', pb, _⟩ := I.list hqb
    obtain ⟨u, hu, ru⟩ := rv.get hx
    obtain ⟨v, hv, rv2⟩ := rw'.get hy
    obtain ⟨hz, hTI, ⟨u0, v0, hTO⟩, h1, h2⟩ := st
    obtain ⟨d1, d2, d3, d4, d5, d6, d7, d8, d9, d10⟩ := D0
    have D : ZipApart z TI TO i1 i2 a b := ⟨d1, d2, d3, d4, d5, d6, d7, d8, d9, d10, (Da z (by simp)).1, (Da TO (by simp)).1, (Da i1 (by simp)).1, (Da i2 (by simp)).1, (Da z (by simp)).2, (Da TO (by simp)).2, (Da i1 (by simp)).2, (Da i2 (by simp)).2⟩
    have lt : ∀ c ∈ [z, TI, TO, i1, i2], c < s.heap.objs.size := fun c hcc => by
      obtain ⟨o1, e1, _⟩ := h1
      obtain ⟨o2, e2, _⟩ := h2
      simp only [List.mem_cons, List.not_mem_nil, or_false] at hcc
      rcases hcc with rfl | rfl | rfl | rfl | rfl
      · exact Heap.lt_size hz
      · exact Heap.lt_size hTI
      · exact Heap.lt_size hTO
      · exact Heap.lt_size e1
      · exact Heap.lt_size e2
    refine wpAny_pyNext_zip_item D hz hTI hTO h1 h2 pa.isList pb.isList (x := u) (y := v) (by simpa using hu) (by simpa using hv) fun q o1 o2 o3 o4 o5 o6 o7 => ?_
    refine ⟨_, rfl, wpAny_letOwnedTupleGo_zip (s := { s with heap := q }) o1 fun g e2 sb2 => ?_⟩
    have sb2' : Heap.SameBut z q g := sb2
    have kept : ∀ c o, c ∉ [z, TI, TO, i1, i2] → s.heap.get? c = some o → g.get? c = some o := fun c o hcc e => by
      simp only [List.mem_cons, List.not_mem_nil, or_false, not_or] at hcc
      exact (sb2'.2 c hcc.1).trans (o7 c o hcc.1 hcc.2.2.1 hcc.2.2.2.1 hcc.2.2.2.2 e)
    have fresh : H s.heap.objs.size = none := I.hok.fresh (Nat.le_refl _)
    have nsz : s.heap.objs.size ≠ z := Nat.ne_of_gt (lt z (by simp))
    have tup : g.get? s.heap.objs.size = some { cls := .type "tuple", data := .seq #[u, v] } := (sb2'.2 _ nsz).trans o5
    have off : ∀ c w, H c = some w → c ∉ [z, TI, TO, i1, i2] := fun c w e hcc => by rw [(hf c hcc).1] at e; cases e
    have I1 : Inv X pins σ (upd H s.heap.objs.size (.tup [x, y])) { s with heap := g } := by
      refine I.step (g' := s.gens) (d' := s.drawn) (t' := s.toks) (ch := [z, TI, TO, i1, i2]) (fun c hcc => ?_) (fun c o _ _ hcc e _ => kept c o hcc e) (fun c o _ _ hcc e _ => ⟨o.slots, kept c o hcc e⟩) (fun c o hcc e n => ?_) (fun c o hcc e => ⟨o, kept c o hcc e⟩)
        (fun c ws e => by rw [upd_ne (ne_of_none e fresh)]; exact e) (fun c o w e => by rw [upd_ne (ne_of_none e fresh)]; exact e) (fun c ps e => ⟨#[], by rw [upd_ne (ne_of_none e fresh), e]; simp⟩) (fun m hm => ?_) (fun c w e => ?_) I.bare
      · obtain ⟨_, f1, f2, f3, f4, f5⟩ := hf c hcc
        exact ⟨f3, f1, f4, f5⟩
      · rw [upd_ne (Nat.ne_of_lt (Heap.lt_size e))]; exact n
      · obtain ⟨o, es', ep, ho, r⟩ := hm
        exact ⟨o, es', ep, kept _ o (fun hcc => (hf _ hcc).2.1 rfl) ho, r⟩
      · by_cases hcs : c = s.heap.objs.size
        · subst hcs
          rw [upd_same] at e; cases e
          exact ⟨by show 2 ≤ sizeLine; decide, [u, v], .cons ru (.cons rv2 .nil), ⟨_, tup, rfl, _, rfl⟩⟩
        · rw [upd_ne hcs] at e
          refine (I.hok c w e).stay (fun d v' hd e3 => kept d v' ?_ e3) (fun d e3 => by rw [upd_ne (ne_of_none e3 fresh)]; exact e3) fun d ws e3 => by rw [upd_ne (ne_of_none e3 fresh)]; exact e3
          rcases hd with rfl | hd
          · exact off _ _ e
          · exact off _ _ hd
    refine ⟨.ref s.heap.objs.size, _, I1, rfl, ⟨_, x, y, fresh, rfl, rfl, fun ws hw => by rw [I.list_inj hw hqa]; exact hx, fun ws hw => by rw [I.list_inj hw hqb]; exact hy⟩, ⟨e2, ?_, ⟨u, v, ?_⟩, o3.extBut sb2'.extBut d3, o4.extBut sb2'.extBut d4⟩, fun c hcc => ?_⟩
    · exact (sb2'.2 TI d1).trans (o7 TI _ d1 d5 d6 d7 hTI)
    · exact (sb2'.2 TO d2).trans o2
    · rw [upd_ne (Nat.ne_of_lt (lt c hcc))]
      exact (hf c hcc).1
  done := by
    intro X hP hw hK hc i pins s σ H E I hf st hg
    subst hP hw hK
    obtain ⟨xs, ys, hqa, hqb, hx⟩ := hg
    obtain ⟨its, rv, pa, _⟩ := I.list hqa
    obtain ⟨jts, rw', pb, _⟩ := I.list hqb
    obtain ⟨hz, hTI, ⟨u0, v0, hTO⟩, h1, h2⟩ := st
    obtain ⟨d1, d2, d3, d4, d5, d6, d7, d8, d9, d10⟩ := D0
    have D : ZipApart z TI TO i1 i2 a b := ⟨d1, d2, d3, d4, d5, d6, d7, d8, d9, d10, (Da z (by simp)).1, (Da TO (by simp)).1, (Da i1 (by simp)).1, (Da i2 (by simp)).1, (Da z (by simp)).2, (Da TO (by simp)).2, (Da i1 (by simp)).2, (Da i2 (by simp)).2⟩
    have hl := rv.length
    refine wpAny_pyNext_zip_end (I.ok.hd hc) D hz hTI hTO h1 h2 pa.isList pb.isList (.inl (by simp; omega)) fun h' hk => ⟨rfl, ?_⟩
    have kept : ∀ c o, c ∉ [z, TO, i1, i2] → s.heap.get? c = some o → h'.get? c = some o := fun c o hcc e => by
      simp only [List.mem_cons, List.not_mem_nil, or_false, not_or] at hcc
      exact hk c o hcc.1 hcc.2.1 hcc.2.2.1 hcc.2.2.2 e
    have sub : ∀ c ∈ [z, TO, i1, i2], c ∈ [z, TI, TO, i1, i2] := fun c hcc => by
      simp only [List.mem_cons, List.not_mem_nil, or_false] at hcc ⊢
      rcases hcc with h | h | h | h <;> simp [h]
    have off : ∀ c w, H c = some w → c ∉ [z, TO, i1, i2] := fun c w e hcc => by rw [(hf c (sub c hcc)).1] at e; cases e
    refine I.step (g' := s.gens) (d' := s.drawn) (t' := s.toks) (ch := [z, TO, i1, i2]) (fun c hcc => ?_) (fun c o _ _ hcc e _ => kept c o hcc e) (fun c o _ _ hcc e _ => ⟨o.slots, kept c o hcc e⟩) (fun c o _ e n => n) (fun c o hcc e => ⟨o, kept c o hcc e⟩)
        (fun c ws e => e) (fun c o w e => e) (fun c ps e => ⟨#[], by rw [e]; simp⟩) (fun m hm => ?_) (fun c w e => ?_) I.bare
    · obtain ⟨_, f1, f2, f3, f4, f5⟩ := hf c (sub c hcc)
      exact ⟨f3, f1, f4, f5⟩
    · obtain ⟨o, es', ep, ho, r⟩ := hm
      exact ⟨o, es', ep, kept _ o (fun hcc => (hf _ (sub _ hcc)).2.1 rfl) ho, r⟩
    · refine (I.hok c w e).stay (fun d v' hd e3 => kept d v' ?_ e3) (fun d e3 => e3) fun d ws e3 => e3
      rcases hd with rfl | hd
      · exact off _ _ e
      · exact off _ _ hd
  self := fun A i s Q E st h => wpAny_pyIter_zip st.1 h
def iZip (K : PySem.W.Frag) (ta : TA) : TI := fun σ H R => ta σ H fun vs H1 => ∃ a b xs ys, vs = [.ref a, .ref b] ∧ SqL K H1 a xs ∧ SqL K H1 b ys ∧ R (Itz K a b) H1
theorem zip_apart (n : Nat) : n + 2 ≠ n + 4 ∧ n + 3 ≠ n + 4 ∧ n ≠ n + 4 ∧ n + 1 ≠ n + 4 ∧ n + 2 ≠ n + 3 ∧ n + 2 ≠ n ∧ n + 2 ≠ n + 1 ∧ n + 3 ≠ n ∧ n + 3 ≠ n + 1 ∧ n ≠ n + 1 := by omega
theorem zip_off {a n c : Nat} (la : a < n) (hc : c = n + 4 ∨ c = n + 3 ∨ c = n ∨ c = n + 1) : a ≠ c := by omega
theorem zip_new {n c : Nat} (hc : c = n + 4 ∨ c = n + 2 ∨ c = n + 3 ∨ c = n ∨ c = n + 1) : n ≤ c := by omega
theorem bo_zip : bootBuiltins "zip" = some (.type "zip") := by decide +kernel
theorem pi_zip {X : Cx} {es : List Expr} {kk : Nat} {tp : Pos} {e1 e2 : Expr} {ta : TA} {p pos : Pos} (hm : X.mg "zip" = none) (ha : PA X [e1, e2] ta) (hg : Gl X "zip" := by rfl)
    (he : starEach [e1, e2] X.env = (false, eval e1 X.env) :: starEach [e2] X.env := by rfl) (hpl : (backTo pos (starEach [e2] X.env)).any (·.1) = false := by rfl) : PI X (.Tuple es kk tp) (.Call (.Name "zip" p) [e1, e2] [] pos) (iZip X.K ta) := by
  intro pins s σ H R I h
  refine wpAny_Call_Name_kw (ld_blt I hg hm bo_zip ?_)
  refine PyProof.Rows.callWith_type1 (thn (ha pos pins s σ H _ I h) fun us s1 ⟨vs, H1, I1, r, a, b, xs, ys, e, hqa, hqb, q⟩ => ?_) he hpl
  subst e
  obtain ⟨u1, u2, rfl, r1, r2⟩ := vals2 r
  cases r1; cases r2
  obtain ⟨its, rv, pa, _⟩ := I1.list hqa
  obtain ⟨jts, rw', pb, _⟩ := I1.list hqb
  obtain ⟨oa, ea, _⟩ := id pa.isList
  obtain ⟨ob, eb, _⟩ := id pb.isList
  have la := Heap.lt_size ea
  have lb := Heap.lt_size eb
  refine call_zip_2 pa.isList pb.isList fun h' g1 g2 g3 g4 g5 g6 g7 => ?_
  refine wpAny_pyIter_zip g1 ?_
  refine ⟨s1.heap.objs.size + 4, [s1.heap.objs.size + 4, s1.heap.objs.size + 2, s1.heap.objs.size + 3, s1.heap.objs.size, s1.heap.objs.size + 1], _, _, H1, rfl, I1.kept (t' := s1.toks) g7, turn_zip a b _ _ _ _ _ (zip_apart _) (fun c hc => ?_), ⟨g1, g2, ⟨_, _, g3⟩, g4, g5⟩, fun c hc => ?_, q⟩
  · simp only [List.mem_cons, List.not_mem_nil, or_false] at hc
    exact ⟨zip_off la hc, zip_off lb hc⟩
  · simp only [List.mem_cons, List.not_mem_nil, or_false] at hc
    exact I1.fpOk (zip_new hc) (I1.hok.fresh (zip_new hc))
/-- over zip(xs, ys), the pair unpacked -/
theorem lc_zip {K : PySem.W.Frag} {a b : Addr} {xs ys : List V} {g : TG} {tc : TT} {te : TE} {n : Nat} {σ : St} {H : Hp} {Q : VK} (Pv : Nat → List V → Hp → Prop) (h0 : Pv 0 [] H) (hz : xs.length ≤ 1000) (hxy : xs.length = ys.length) (hl : ∀ i zs H, Pv i zs H → zs.length ≤ i) (hk : ∀ i zs H, i ≤ xs.length → Pv i zs H → SqL K H a xs ∧ SqL K H b ys)
    (hs : ∀ i x y zs H p, xs[i]? = some x → ys[i]? = some y → Pv i zs H → H p = none → g (.ref p) (blank n σ) (upd H p (.tup [x, y])) fun σ2 H1 => (∃ vs : List V, vs.length = n ∧ σ2 = vs.map some ++ σ) ∧ tc σ2 H1 fun c H2 => if c = true then te σ2 H2 fun y H3 => Pv (i + 1) (zs ++ [y]) H3 else Pv (i + 1) zs H2)
    (hd : ∀ zs H, Pv xs.length zs H → ∀ p, H p = none → Q (.ref p) (upd H p (.lst zs))) : LCwT n (Itz K a b) g tc te σ H Q := by
  refine ⟨fun i m zs H => m = xs.length - i ∧ i ≤ xs.length ∧ Pv i zs H, ⟨xs.length, by simp, Nat.zero_le _, h0⟩, ?_⟩
  rintro i m zs H ⟨rfl, hi, p⟩
  obtain ⟨qa, qb⟩ := hk i zs H hi p
  by_cases hlt : i < xs.length
  · refine .inr ⟨⟨xs, ys, xs[i], ys[i]'(by omega), qa, qb, by simp [hlt], by simp [show i < ys.length by omega]⟩, small1000 (by have := hl i zs H p; omega), Pv (i + 1), fun ws H' p' => ⟨xs.length - (i + 1), by omega, rfl, hlt, p'⟩, fun x H' y => ?_⟩
    obtain ⟨pp, u, v, e1, e2, e3, y1, y2⟩ := y
    subst e2 e3
    exact hs i u v zs H pp (y1 xs qa) (y2 ys qb) p e1
  · have e : i = xs.length := by omega
    subst e
    exact .inl ⟨⟨xs, ys, qa, qb, Nat.le_refl _⟩, hd zs H p⟩
/-- .. without a test -/
theorem lc_zipY {K : PySem.W.Frag} {a b : Addr} {xs ys : List V} {g : TG} {te : TE} {n : Nat} {σ : St} {H : Hp} {Q : VK} (Pv : Nat → List V → Hp → Prop) (h0 : Pv 0 [] H) (hz : xs.length ≤ 1000) (hxy : xs.length = ys.length) (hl : ∀ i zs H, Pv i zs H → zs.length ≤ i) (hk : ∀ i zs H, i ≤ xs.length → Pv i zs H → SqL K H a xs ∧ SqL K H b ys)
    (hs : ∀ i x y zs H p, xs[i]? = some x → ys[i]? = some y → Pv i zs H → H p = none → g (.ref p) (blank n σ) (upd H p (.tup [x, y])) fun σ2 H1 => (∃ vs : List V, vs.length = n ∧ σ2 = vs.map some ++ σ) ∧ te σ2 H1 fun y H3 => Pv (i + 1) (zs ++ [y]) H3)
    (hd : ∀ zs H, Pv xs.length zs H → ∀ p, H p = none → Q (.ref p) (upd H p (.lst zs))) : LCwT n (Itz K a b) g tYes te σ H Q := by
  refine lc_zip Pv h0 hz hxy hl hk (fun i x y zs H p e1 e2 hp hn => ?_) hd
  have e : (fun (σ2 : St) (H1 : Hp) => (∃ vs : List V, vs.length = n ∧ σ2 = vs.map some ++ σ) ∧ tYes σ2 H1 fun c H2 => if c = true then te σ2 H2 fun y H3 => Pv (i + 1) (zs ++ [y]) H3 else Pv (i + 1) zs H2) =
      fun σ2 H1 => (∃ vs : List V, vs.length = n ∧ σ2 = vs.map some ++ σ) ∧ te σ2 H1 fun y H3 => Pv (i + 1) (zs ++ [y]) H3 := by
    funext σ2 H1
    show (_ ∧ if true = true then te σ2 H1 (fun y H3 => Pv (i + 1) (zs ++ [y]) H3) else Pv (i + 1) zs H1) = _
    rw [if_pos rfl]
  rw [e]
  exact hs i x y zs H p e1 e2 hp hn
/-- over the signs of a text -/
theorem lc_str {z : Str} {tc : TT} {te : TE} {σ : St} {H : Hp} {Q : VK} (Pv : Nat → List V → Hp → Prop) (h0 : Pv 0 [] H) (hz : z.length ≤ 1000) (hl : ∀ i ys H, Pv i ys H → ys.length ≤ i)
    (hs : ∀ i c ys H, z.cps[i]? = some c → Pv i ys H → tc (some (.str ⟨#[c]⟩) :: σ) H fun k H2 => if k = true then te (some (.str ⟨#[c]⟩) :: σ) H2 fun y H3 => Pv (i + 1) (ys ++ [y]) H3 else Pv (i + 1) ys H2)
    (hd : ∀ ys H, Pv z.length ys H → ∀ p, H p = none → Q (.ref p) (upd H p (.lst ys))) : LCw (Its z) tc te σ H Q := by
  refine ⟨fun i m ys H => m = z.length - i ∧ i ≤ z.length ∧ Pv i ys H, ⟨z.length, by simp, Nat.zero_le _, h0⟩, ?_⟩
  rintro i m ys H ⟨rfl, hi, p⟩
  by_cases hlt : i < z.length
  · refine .inr ⟨hlt, small1000 (by have := hl i ys H p; omega), Pv (i + 1), fun zs H' p' => ⟨z.length - (i + 1), by omega, rfl, hlt, p'⟩, fun x H' y => ?_⟩
    obtain ⟨c, e1, e2, e3⟩ := y
    subst e2 e3
    exact hs i c ys _ e1 p
  · have e : i = z.length := by omega
    subst e
    exact .inl ⟨Nat.le_refl _, hd ys H p⟩
theorem lc_strY {z : Str} {te : TE} {σ : St} {H : Hp} {Q : VK} (Pv : Nat → List V → Hp → Prop) (h0 : Pv 0 [] H) (hz : z.length ≤ 1000) (hl : ∀ i ys H, Pv i ys H → ys.length ≤ i)
    (hs : ∀ i c ys H, z.cps[i]? = some c → Pv i ys H → te (some (.str ⟨#[c]⟩) :: σ) H fun y H3 => Pv (i + 1) (ys ++ [y]) H3)
    (hd : ∀ ys H, Pv z.length ys H → ∀ p, H p = none → Q (.ref p) (upd H p (.lst ys))) : LCw (Its z) tYes te σ H Q :=
  lc_str Pv h0 hz hl (fun i c ys H hi p => iteT (B := Pv (i + 1) ys H) (hs i c ys H hi p)) hd
section
variable {X : Cx}
/-- a text that stands at the top -/
theorem pe_constS {x : Str} {z : Str} {tk : Tok} {pos : Pos} (hm : X.mg x = some (.str z tk)) (hg : Gl X x := by rfl) (hd : (x == ("__debug__" : Str)) = false := by decide) : PE X (.Name x pos) (tC (.str z)) := pe_glob hg hm ⟨tk, rfl⟩ hd
/-- a text in an f-string -/
theorem pe_fmtS {e : Expr} {te : TE} {pos : Pos} (he : PE X e te) : PE X (.FormattedValue e (-1) none pos) (fun σ H Q => te σ H fun x H1 => ∃ z : Str, x = .str z ∧ z.length ≤ sizeLine ∧ Q (.str z) H1) := fun pins s σ H Q I h => by
  refine FormattedValue_plain (thn (he pins s σ H _ I h) fun u s1 ⟨x, H1, I1, r, z, ez, hz, q⟩ => ?_)
  subst ez
  obtain ⟨tk, rfl⟩ := r
  exact formatField_str (fun t' tk => ⟨.str z, H1, I1.tok _, ⟨_, rfl⟩, q⟩) hz
/-- a try whose body raises nothing -/
theorem ps_tryQ {tb : TS} {body : List Stmt} {h0 : ExceptHandler} {hs : List ExceptHandler} {pos : Pos} (hb : PSs X body tb) (hx : X.xe = fun _ _ => False := by rfl) : PS X (.Try body (h0 :: hs) [] [] pos) tb := by
  intro pins s σ H D I h
  refine wpAny_Try_except ?_
  refine wpAny_mono (hb pins s σ H D I h) (fun f s2 r => ?_) (fun _ _ z => by rw [hx] at z; exact z.elim)
  cases f with
  | next => exact wpAny_execs_nil r
  | brk => exact r
  | cont => exact r
  | ret u => exact r
end
end L2
namespace TM
structure Good (es ws : List Nat) : Prop where
  len : es.length + 1 = ws.length
  most : ws.length ≤ 14
  lt : ∀ k, k < es.length → es.getD k 0 ≤ k
  wo : ∀ v ∈ ws, v ≤ 1000
def Eld (es : List Nat) : Prop := ∀ k, k < es.length → es.getD k 0 ≤ k
end TM
namespace TM
variable {es : List Nat}
end TM
namespace TM
variable {es : List Nat}
end TM
namespace TM
variable {es : List Nat}
end TM
namespace TM
variable {es : List Nat}
end TM
namespace TM
variable {es : List Nat}
end TM
namespace TM
variable {es : List Nat}
end TM
namespace TM
variable {es : List Nat}
end TM
namespace TM
variable {es : List Nat}
end TM
set_option Elab.async false
set_option maxHeartbeats 4000000
set_option maxRecDepth 20000
namespace TX
open PySem
abbrev sg (x : Str) : List Nat := x.cps.toList
theorem sg_inj {x y : Str} (h : sg x = sg y) : x = y := Str.ext' (by simpa using h)
theorem sg_app (x y : Str) : sg (x ++ y) = sg x ++ sg y := by
  show (x ++ y).cps.toList = _
  rw [Str.cps_append]; simp
/-- the first of two like cuts -/
theorem cut_one {c : Nat} : ∀ {x y r q : List Nat}, c ∉ x → c ∉ y → x ++ c :: r = y ++ c :: q → x = y ∧ r = q
  | [], [], r, q, _, _, e => ⟨rfl, (List.cons.inj e).2⟩
  | [], b :: y, r, q, _, h2, e => absurd (show c ∈ b :: y by rw [(List.cons.inj e).1]; exact List.mem_cons_self) h2
  | a :: x, [], r, q, h1, _, e => absurd (show c ∈ a :: x by rw [← (List.cons.inj e).1]; exact List.mem_cons_self) h1
  | a :: x, b :: y, r, q, h1, h2, e => by
    obtain ⟨e1, e2⟩ := List.cons.inj e
    obtain ⟨e3, e4⟩ := cut_one (fun z => h1 (List.mem_cons_of_mem _ z)) (fun z => h2 (List.mem_cons_of_mem _ z)) e2
    exact ⟨by rw [e1, e3], e4⟩
theorem sg_join (c : Nat) (x y : Str) (r : List Str) : sg (Str.join ⟨#[c]⟩ (x :: y :: r)) = sg x ++ c :: sg (Str.join ⟨#[c]⟩ (y :: r)) := by
  show sg (x ++ ⟨#[c]⟩ ++ Str.join ⟨#[c]⟩ (y :: r)) = _
  rw [sg_app, sg_app, List.append_assoc]; rfl
theorem join_inj (c : Nat) : ∀ {ss ts : List Str}, ss ≠ [] → ts ≠ [] → (∀ x ∈ ss, c ∉ sg x) → (∀ x ∈ ts, c ∉ sg x) → sg (Str.join ⟨#[c]⟩ ss) = sg (Str.join ⟨#[c]⟩ ts) → ss = ts
  | [], _, h, _, _, _, _ => absurd rfl h
  | _, [], _, h, _, _, _ => absurd rfl h
  | [x], [y], _, _, _, _, e => by rw [sg_inj (show sg x = sg y from e)]
  | [x], y :: z :: r, _, _, h1, _, e => by
    rw [sg_join] at e
    have e' : sg x = sg y ++ c :: sg (Str.join ⟨#[c]⟩ (z :: r)) := e
    exact absurd (by rw [e']; simp) (h1 x List.mem_cons_self)
  | x :: z :: r, [y], _, _, _, h2, e => by
    rw [sg_join] at e
    have e' : sg x ++ c :: sg (Str.join ⟨#[c]⟩ (z :: r)) = sg y := e
    exact absurd (by rw [← e']; simp) (h2 y List.mem_cons_self)
  | x :: a :: r, y :: b :: q, _, _, h1, h2, e => by
    rw [sg_join, sg_join] at e
    obtain ⟨e1, e2⟩ := cut_one (h1 x List.mem_cons_self) (h2 y List.mem_cons_self) e
    rw [sg_inj e1, join_inj c (by simp) (by simp) (fun z hz => h1 z (List.mem_cons_of_mem _ hz)) (fun z hz => h2 z (List.mem_cons_of_mem _ hz)) e2]
theorem split_join {c : Nat} {ts : List Str} (h0 : ts ≠ []) (h : ∀ x ∈ ts, c ∉ sg x) : Txt.split (Str.join ⟨#[c]⟩ ts) ⟨#[c]⟩ = ts := by
  have p := PyProof.Rows.split_pos (Str.join ⟨#[c]⟩ ts) ⟨#[c]⟩
  refine join_inj c (fun e => by rw [e] at p; exact absurd p (by decide)) h0 (StrLaws.split_free _ c) h ?_
  rw [StrLaws.join_split]
def num (n : Nat) : Str := Str.ofString (toString (n : Int))
def okNum (n : Nat) : Bool := decide (1 ≤ (num n).length) && decide ((num n).length ≤ 4) && ((num n).cps.toList.all fun c => decide (48 ≤ c) && decide (c ≤ 57)) && (decide ((num n).cps[0]? = some 48) == decide (n = 0))
theorem all_ok : (List.range 1001).all okNum = true := by decide +kernel
theorem ok_num {n : Nat} (h : n ≤ 1000) : okNum n = true := List.all_eq_true.mp all_ok n (List.mem_range.mpr (by omega))
theorem num_len {n : Nat} (h : n ≤ 1000) : 1 ≤ (num n).length ∧ (num n).length ≤ 4 := by
  have := ok_num h
  unfold okNum at this
  simp only [Bool.and_eq_true, decide_eq_true_eq] at this
  exact ⟨this.1.1.1, this.1.1.2⟩
theorem num_digits {n : Nat} (h : n ≤ 1000) : ∀ c ∈ sg (num n), 48 ≤ c ∧ c ≤ 57 := by
  have := ok_num h
  unfold okNum at this
  simp only [Bool.and_eq_true] at this
  intro c hc
  have := List.all_eq_true.mp this.1.2 c hc
  simpa using this
theorem num_zero {n : Nat} (h : n ≤ 1000) (h0 : (num n).cps[0]? = some 48) : num n = ("0" : String) := by
  have := ok_num h
  unfold okNum at this
  simp only [Bool.and_eq_true] at this
  have t := this.2
  rw [decide_eq_true h0] at t
  have : n = 0 := by simpa using t
  subst this; decide +kernel
theorem num_free {n c : Nat} (h : n ≤ 1000) (hc : c < 48 ∨ 57 < c) : c ∉ sg (num n) := fun m => by
  have := num_digits h c m
  omega
theorem num_ascii {n : Nat} (h : n ≤ 1000) : (num n).cps.all (· < 128) = true := by
  rw [Array.all_eq_true]
  intro i hi
  have := num_digits h (num n).cps[i] (by show _ ∈ (num n).cps.toList; exact Array.getElem_mem_toList hi)
  simp
  omega
def figs : Str := ("0123456789" : String)
theorem fig_in {c : Nat} (h : 48 ≤ c ∧ c ≤ 57) : (!(Builtin.Str.occurrences figs ⟨#[c]⟩ 0 figs.length 1).isEmpty) = true := by
  have : c = 48 ∨ c = 49 ∨ c = 50 ∨ c = 51 ∨ c = 52 ∨ c = 53 ∨ c = 54 ∨ c = 55 ∨ c = 56 ∨ c = 57 := by omega
  rcases this with rfl | rfl | rfl | rfl | rfl | rfl | rfl | rfl | rfl | rfl <;> decide +kernel
def sep : Str := (" " : String)
def col : Str := (":" : String)
def dash : Str := ("-" : String)
theorem sep_is : sep = ⟨#[32]⟩ := by decide +kernel
theorem col_is : col = ⟨#[58]⟩ := by decide +kernel
/-- what stands ahead of the colon -/
def eld (es : List Nat) (k : Nat) : Str := if k = 0 then dash else num (es.getD (k - 1) 0)
def word (es ws : List Nat) (k : Nat) : Str := eld es k ++ col ++ num (ws.getD k 0)
def words (es ws : List Nat) : List Str := (List.range (es.length + 1)).map (word es ws)
def text (es ws : List Nat) : Str := Str.join sep (words es ws)
theorem words_len (es ws : List Nat) : (words es ws).length = es.length + 1 := by unfold words; rw [List.length_map, List.length_range]
open TM
theorem w_le {es ws : List Nat} (G : Good es ws) {k : Nat} : ws.getD k 0 ≤ 1000 := by
  by_cases h : k < ws.length
  · rw [List.getD_eq_getElem?_getD, List.getElem?_eq_getElem h]; exact G.wo _ (List.getElem_mem h)
  · rw [List.getD_eq_getElem?_getD, List.getElem?_eq_none (by omega)]; exact Nat.zero_le _
theorem e_le {es ws : List Nat} (G : Good es ws) {k : Nat} : es.getD k 0 ≤ 1000 := by
  by_cases h : k < es.length
  · have := G.lt k h
    have := G.len
    have := G.most
    omega
  · rw [List.getD_eq_getElem?_getD, List.getElem?_eq_none (by omega)]; exact Nat.zero_le _
theorem eld_free {es ws : List Nat} (G : Good es ws) (k : Nat) {c : Nat} (hc : c = 32 ∨ c = 58) : c ∉ sg (eld es k) := by
  unfold eld
  split
  · rcases hc with rfl | rfl <;> decide +kernel
  · exact num_free (e_le G) (by omega)
theorem word_free {es ws : List Nat} (G : Good es ws) (k : Nat) : 32 ∉ sg (word es ws k) := by
  unfold word
  rw [sg_app, sg_app, List.mem_append, List.mem_append]
  rintro ((h | h) | h)
  · exact eld_free G k (.inl rfl) h
  · exact absurd h (by decide +kernel)
  · exact num_free (w_le G) (by omega) h
theorem text_split {es ws : List Nat} (G : Good es ws) : Txt.split (text es ws) sep = words es ws := by
  unfold text
  rw [sep_is]
  refine split_join (fun e => ?_) fun x hx => ?_
  · have := words_len es ws
    rw [e] at this
    cases this
  · obtain ⟨k, _, rfl⟩ := List.mem_map.mp hx
    exact word_free G k
theorem word_split {es ws : List Nat} (G : Good es ws) (k : Nat) : Txt.split (word es ws k) col = [eld es k, num (ws.getD k 0)] := by
  have e : word es ws k = Str.join ⟨#[58]⟩ [eld es k, num (ws.getD k 0)] := by
    unfold word
    rw [col_is]; rfl
  rw [e, col_is]
  refine split_join (by simp) fun x hx => ?_
  rcases List.mem_cons.mp hx with rfl | hx
  · exact eld_free G k (.inr rfl)
  · have : x = num (ws.getD k 0) := by simpa using hx
    rw [this]; exact num_free (w_le G) (by omega)
theorem eld_len {es ws : List Nat} (G : Good es ws) (k : Nat) : 1 ≤ (eld es k).length ∧ (eld es k).length ≤ 4 := by
  unfold eld
  split
  · decide +kernel
  · exact num_len (e_le G)
theorem word_len {es ws : List Nat} (G : Good es ws) (k : Nat) : (word es ws k).length ≤ 9 := by
  unfold word
  rw [Str.length_append, Str.length_append]
  have := (eld_len G k).2
  have := (num_len (w_le G (k := k))).2
  have : col.length = 1 := by decide +kernel
  omega
theorem join_more (s a : Str) : ∀ l : List Str, l ≠ [] → Str.join s (l ++ [a]) = Str.join s l ++ s ++ a
  | [], h => absurd rfl h
  | [x], _ => rfl
  | x :: y :: r, _ => by
    have ih := join_more s a (y :: r) (by simp)
    show x ++ s ++ Str.join s (y :: r ++ [a]) = x ++ s ++ Str.join s (y :: r) ++ s ++ a
    rw [ih]
    simp only [Str.append_assoc]
/-- the first k words -/
def textTo (es ws : List Nat) (k : Nat) : Str := Str.join sep ((List.range k).map (word es ws))
theorem textTo_one (es ws : List Nat) : textTo es ws 1 = word es ws 0 := rfl
theorem textTo_succ (es ws : List Nat) {k : Nat} (h : 0 < k) : textTo es ws (k + 1) = textTo es ws k ++ sep ++ word es ws k := by
  unfold textTo
  rw [List.range_succ, List.map_append]
  show Str.join sep (_ ++ [word es ws k]) = _
  refine join_more _ _ _ fun e => ?_
  have := congrArg List.length e
  rw [List.length_map, List.length_range] at this
  exact absurd this (by simp; omega)
theorem textTo_all (es ws : List Nat) : textTo es ws (es.length + 1) = text es ws := rfl
theorem textTo_len {es ws : List Nat} (G : Good es ws) : ∀ k, (textTo es ws (k + 1)).length ≤ 10 * (k + 1)
  | 0 => by rw [textTo_one]; have := word_len G 0; omega
  | k + 1 => by
    have h1 := textTo_len G k
    have h2 := word_len G (k + 1)
    have h3 : sep.length = 1 := by decide +kernel
    have h4 : (textTo es ws (k + 1 + 1)).length = (textTo es ws (k + 1)).length + sep.length + (word es ws (k + 1)).length := by
      rw [textTo_succ es ws (Nat.succ_pos k), Str.length_append, Str.length_append]
    rw [h4, h3]
    omega
end TX
set_option Elab.async false
set_option maxHeartbeats 4000000
namespace FT
open PySem L2 TM
def nats (l : List Nat) : List V := l.map fun n : Nat => V.int (n : Int)
theorem nats_length (l : List Nat) : (nats l).length = l.length := List.length_map _
theorem nats_get {l : List Nat} {i : Nat} (h : i < l.length) : (nats l)[i]? = some (.int (l.getD i 0 : Nat)) := by
  unfold nats
  rw [List.getElem?_map, List.getElem?_eq_getElem h, List.getD_eq_getElem?_getD, List.getElem?_eq_getElem h]; rfl
theorem nats_app (l m : List Nat) : nats (l ++ m) = nats l ++ nats m := List.map_append ..
theorem nats_at {l : List Nat} {i : Nat} (h : i < l.length) : atI (nats l) (i : Int) = some (.int (l.getD i 0 : Nat)) := atI_nat (nats_get h)
theorem same_new {H : Hp} {p : Addr} (h : H p = none) (o : HO) : Same H (upd H p o) := fun b u q => by rw [upd_ne (ne_of_none q h)]; exact q
theorem same_upd {H H' : Hp} {p : Addr} {o : HO} (s : Same H H') (h : H p = none) : Same H (upd H' p o) := fun b u q => by rw [upd_ne (ne_of_none q h)]; exact s b u q
theorem small {n : Nat} (h : n ≤ 1000) : n ≤ sizeLine := Nat.le_of_lt (small1000 h)
theorem bo_list : bootBuiltins "list" = some (.type "list") := by decide +kernel
theorem bo_tuple : bootBuiltins "tuple" = some (.type "tuple") := by decide +kernel
theorem bo_int : bootBuiltins "int" = some (.type "int") := by decide +kernel
theorem bo_min : bootBuiltins "min" = some (.builtin "min") := by decide +kernel
theorem bo_isinstance : bootBuiltins "isinstance" = some (.builtin "isinstance") := by decide +kernel
structure Nm (mg : Str → Option Value) : Prop where
  len : mg "len" = none
  range : mg "range" = none
  min : mg "min" = none
  max : mg "max" = none
  list : mg "list" = none
  tuple : mg "tuple" = none
  sum : mg "sum" = none
  isinstance : mg "isinstance" = none
  int : mg "int" = none
  bool : mg "bool" = none
  enumerate : mg "enumerate" = none
/-- a Tree stands at x: its two tuples -/
def IsTree (C : Addr) (H : Hp) (x : Addr) (es ws : List Nat) : Prop :=
  ∃ dx p q, H x = some (.ins C dx (putF "worth_row" (.ref q) (putF "elder_row" (.ref p) []))) ∧ H p = some (.tup (nats es)) ∧ H q = some (.tup (nats ws))
theorem IsTree.same {C : Addr} {H H' : Hp} {x : Addr} {es ws : List Nat} (t : IsTree C H x es ws) (s : Same H H') : IsTree C H' x es ws := by
  obtain ⟨dx, p, q, a, b, c⟩ := t
  exact ⟨dx, p, q, s _ _ a, s _ _ b, s _ _ c⟩
theorem we : ¬ (("elder_row" : Str) = "worth_row") := by decide +kernel
theorem row_w (p q : V) : (putF "worth_row" q (putF "elder_row" p [])).lookup ("worth_row" : Str) = some q := by rw [lookup_putF, if_pos rfl]
theorem row_e (p q : V) : (putF "worth_row" q (putF "elder_row" p [])).lookup ("elder_row" : Str) = some p := by rw [lookup_putF, if_neg we, lookup_putF, if_pos rfl]
theorem row_no (p q : V) {m : Str} (h1 : ¬ m = "worth_row") (h2 : ¬ m = "elder_row") : (putF "worth_row" q (putF "elder_row" p [])).lookup m = none := by
  rw [lookup_putF, if_neg h1, lookup_putF, if_neg h2]; rfl
section
variable (K : PySem.W.Frag)
def spCell : Sp := fun vs H Q _ => ∃ (a : Addr) (ns : List Int) (k : Int), vs = [.ref a, .int k] ∧ SqL K H a (ns.map V.int) ∧ 0 ≤ k ∧ ∀ d : Int, Q (.int d) H
def spDraw : Sp := fun vs H Q _ => ∃ (a : Addr) (ns : List Int) (k : Int), vs = [.ref a, .int k] ∧ SqL K H a (ns.map V.int) ∧ 0 ≤ k ∧ k ≤ 1000 ∧ ∀ d : Int, 0 ≤ d → d < 2147483647 → Q (.int d) H
def spElders : Sp := fun vs H Q _ => ∃ (a : Addr) (ns : List Int) (n : Int), vs = [.ref a, .int n] ∧ SqL K H a (ns.map V.int) ∧ 1 ≤ n ∧ n ≤ 14 ∧
  ∀ (r : Addr) (es : List Nat) (H' : Hp), H r = none → Same H H' → H' r = some (.lst (nats es)) → (es.length : Int) + 1 = n → Eld es → Q (.ref r) H'
def spTree : Sp := fun vs H Q _ => ∃ (a : Addr) (ns : List Int) (m : Int), vs = [.ref a, .int m] ∧ SqL K H a (ns.map V.int) ∧ 1 ≤ m ∧ m ≤ 14 ∧
  ∀ (r e w : Addr) (es ws : List Nat) (H' : Hp), H r = none → H e = none → H w = none → e ≠ w → Same H H' → H' r = some (.tup [.ref e, .ref w]) → H' e = some (.lst (nats es)) → H' w = some (.lst (nats ws)) → Good es ws → (ws.length : Int) ≤ m → Q (.ref r) H'
def spLengths : Sp := fun vs H Q _ => ∃ (a b : Addr) (es ws : List Nat), vs = [.ref a, .ref b] ∧ SqL K H a (nats es) ∧ SqL K H b (nats ws) ∧ Good es ws ∧ Q .non H
def spChkE : Sp := fun vs H Q _ => ∃ (a : Addr) (es : List Nat), vs = [.ref a] ∧ H a = some (.lst (nats es)) ∧ Eld es ∧ es.length ≤ 14 ∧ ∀ H', Same H H' → Q .non H'
def spChkW : Sp := fun vs H Q _ => ∃ (a : Addr) (ws : List Nat), vs = [.ref a] ∧ SqL K H a (nats ws) ∧ ws.length ≤ 14 ∧ (∀ v ∈ ws, v ≤ 1000) ∧ Q .non H
def spInit (C : Addr) : Sp := fun vs H Q _ => ∃ (x dx a b : Addr) (es ws : List Nat), vs = [.ref x, .ref a, .ref b] ∧ H x = some (.ins C dx []) ∧ H a = some (.lst (nats es)) ∧ H b = some (.lst (nats ws)) ∧ Good es ws ∧
  ∀ H', (∀ c o, c ≠ x → H c = some o → H' c = some o) → IsTree C H' x es ws → Q .non H'
def spGetE (C : Addr) : Sp := fun vs H Q _ => ∃ (x : Addr) (es ws : List Nat), vs = [.ref x] ∧ IsTree C H x es ws ∧ ∀ r, H r = none → Q (.ref r) (upd H r (.lst (nats es)))
def spGetW (C : Addr) : Sp := fun vs H Q _ => ∃ (x : Addr) (es ws : List Nat), vs = [.ref x] ∧ IsTree C H x es ws ∧ ∀ r, H r = none → Q (.ref r) (upd H r (.lst (nats ws)))
/-- law(script): for a list of at most 63 ints the answer is True -/
def spLaw : Sp := fun vs H Q _ => ∃ (a : Addr) (ns : List Int), vs = [.ref a] ∧ SqL K H a (ns.map V.int) ∧ ns.length ≤ 63 ∧ ∀ H', Q (.bl true) H'
end
end FT
set_option Elab.async false
set_option maxHeartbeats 4000000
set_option maxRecDepth 20000
namespace FT
open PySem L2 TM
def top (i : Nat) : Stmt := PySem.Challenge.pw_firetree_k07_written_and_read.main.body.getD i (.Pass ⟨0, 0, 0, 0⟩)
abbrev s_cell : Stmt := (top 21)
abbrev s_draw : Stmt := (top 22)
abbrev s_elders : Stmt := (top 23)
abbrev s_tree : Stmt := (top 24)
section
variable {P : Program} {w : World} {K : PySem.W.Frag} {mg : Str → Option Value} {base : Heap} {f : Addr} {fd : FuncData}
theorem sc_cell : FnScope ["script", "k"] ["script", "k"] (defScope s_cell) := ⟨rfl, rfl, rfl, by decide +kernel, rfl, by decide +kernel, by decide +kernel⟩
theorem ok_cell (F : Fun K "_law_cell_at" "_law_cell_at" s_cell f fd) (N : Nm mg) : FnOk P w K mg base CX0 1 f fd ["script", "k"] (spCell K) := by
  refine F.ok sc_cell (fun vs H Q E h => ?_) (fun cdv A outer s H vs Q E hr h => ?_)
  · obtain ⟨a, ns, k, rfl, _⟩ := h
    rfl
  obtain ⟨a, ns, k, rfl, hS, h0, q⟩ := h
  have mn_len := N.len
  refine ⟨_, (pss_cons (ps_if (pt_cmpR op_lt (pv 1) (pe_callB call_len_seq (by rfl) mn_len PySem.boot_len (pa_cons (pv 0) pa_nil)) (nomark _)) (pss_one (ps_ret (pe_ix ix_list (pv 0) (pv 1) (fun _ _ => rfl)))) pss_nil)
    (pss_one (ps_ret pe_int))), ?_⟩
  have hl : (ns.map V.int).length = ns.length := List.length_map _
  refine ⟨_, rfl, _, rfl, a, _, rfl, .inl hS, _, _, rfl, rfl, _, rfl, ?_⟩
  refine ite2 (fun c => ?_) (fun c => ?_)
  · have c' : k < (((ns.map V.int).length : Nat) : Int) := of_decide_eq_true c
    rw [hl] at c'
    have hk : k.toNat < ns.length := by omega
    have ek : k = ((k.toNat : Nat) : Int) := by omega
    have hv : atI (ns.map V.int) ((k.toNat : Nat) : Int) = some (.int ns[k.toNat]) := atI_nat (by rw [List.getElem?_map, List.getElem?_eq_getElem hk] <;> rfl)
    rw [← ek] at hv
    exact ⟨_, rfl, _, rfl, a, _, _, _, rfl, rfl, hS, hv, q _⟩
  · exact q 0
theorem sc_draw : FnScope ["script", "k"] ["script", "k"] (defScope s_draw) := ⟨rfl, rfl, rfl, by decide +kernel, rfl, by decide +kernel, by decide +kernel⟩
theorem ok_draw (F : Fun K "_law_draw" "_law_draw" s_draw f fd) (D_law_cell_at : DefOk P w K mg base CX0 "_law_cell_at" 1 ["script", "k"] (spCell K)) : FnOk P w K mg base CX0 2 f fd ["script", "k"] (spDraw K) := by
  refine F.ok sc_draw (fun vs H Q E h => ?_) (fun cdv A outer s H vs Q E hr h => ?_)
  · obtain ⟨a, ns, k, rfl, _⟩ := h
    rfl
  obtain ⟨a, ns, k, rfl, hS, h0, h1, q⟩ := h
  refine ⟨_, (pss_one (ps_ret (pe_op op_mod (pe_op op_mul (pe_op op_add (pe_def D_law_cell_at hr pass0 (pa_cons (pv 0) (pa_cons (pe_op op_mod (pv 1) pe_int) pa_nil))) (pe_op op_mul pe_int (pv 1))) (pe_op op_add pe_int (pe_op op_mul pe_int (pv 1)))) pe_int))), ?_⟩
  refine ⟨_, rfl, _, rfl, _, _, rfl, rfl, (by show (0 : Int) < 61; decide), a, ns, k % 61, rfl, hS, Int.emod_nonneg _ (by decide), fun d => ?_⟩
  refine ⟨_, rfl, _, _, rfl, rfl, .inl ⟨by decide, by decide⟩, _, _, rfl, rfl, _, rfl, _, _, rfl, rfl, .inl ⟨by decide, by decide⟩, _, _, rfl, rfl, _, _, rfl, rfl, .inr ⟨by omega, by omega⟩, _, _, rfl, rfl, (by show (0 : Int) < 2147483647; decide), ?_⟩
  exact q _ (Int.emod_nonneg _ (by decide)) (Int.emod_lt_of_pos _ (by decide))
theorem sc_elders : FnScope ["script", "things", "elders", "way", "k", "cell"] ["script", "things"] (defScope s_elders) := ⟨rfl, rfl, rfl, by decide +kernel, rfl, by decide +kernel, by decide +kernel⟩
/-- each of the four ways gives an elder -/
theorem four_ways {way d : Int} {i : Nat} (w0 : 0 ≤ way) (w1 : way < 4) (d0 : 0 ≤ d) :
    ∃ m : Nat, m ≤ i ∧ atI [V.int (d % (0 + (i : Int) + 1)), .int (0 + (i : Int) - d % (0 + (i : Int) + 1) / 2), .int (d % (if 3 < 0 + (i : Int) + 1 then 3 else 0 + (i : Int) + 1)), .int ((0 + (i : Int) + d % 2) / 2)] way = some (.int (m : Nat)) := by
  have e0 : (0 : Int) + (i : Int) + 1 = (i : Int) + 1 := by omega
  have e1 : (0 : Int) + (i : Int) = (i : Int) := by omega
  have a1 : 0 ≤ d % ((i : Int) + 1) := Int.emod_nonneg _ (by omega)
  have a2 : d % ((i : Int) + 1) < (i : Int) + 1 := Int.emod_lt_of_pos _ (by omega)
  rw [e0, e1]
  have hw : way = 0 ∨ way = 1 ∨ way = 2 ∨ way = 3 := by omega
  rcases hw with rfl | rfl | rfl | rfl
  · refine ⟨(d % ((i : Int) + 1)).toNat, by omega, ?_⟩
    rw [Int.toNat_of_nonneg a1]; rfl
  · refine ⟨((i : Int) - d % ((i : Int) + 1) / 2).toNat, by omega, ?_⟩
    rw [Int.toNat_of_nonneg (by omega)]; rfl
  · by_cases c : (3 : Int) < (i : Int) + 1
    · have b1 : 0 ≤ d % 3 := Int.emod_nonneg _ (by decide)
      have b2 : d % 3 < 3 := Int.emod_lt_of_pos _ (by decide)
      refine ⟨(d % 3).toNat, by omega, ?_⟩
      rw [if_pos c, Int.toNat_of_nonneg b1]; rfl
    · refine ⟨(d % ((i : Int) + 1)).toNat, by omega, ?_⟩
      rw [if_neg c, Int.toNat_of_nonneg a1]; rfl
  · have b1 : 0 ≤ d % 2 := Int.emod_nonneg _ (by decide)
    have b2 : d % 2 < 2 := Int.emod_lt_of_pos _ (by decide)
    refine ⟨(((i : Int) + d % 2) / 2).toNat, by omega, ?_⟩
    rw [Int.toNat_of_nonneg (by omega)]; rfl
theorem eld_snoc {es : List Nat} {m : Nat} (h : Eld es) (hm : m ≤ es.length) : Eld (es ++ [m]) := fun k hk => by
  rw [List.length_append, List.length_singleton] at hk
  by_cases c : k < es.length
  · have := h k c
    rw [List.getD_eq_getElem?_getD, List.getElem?_append_left c, ← List.getD_eq_getElem?_getD]; exact this
  · have e : k = es.length := by omega
    subst e
    simp [hm]
theorem ok_elders (F : Fun K "_law_elders" "_law_elders" s_elders f fd) (N : Nm mg) (D_law_draw : DefOk P w K mg base CX0 "_law_draw" 2 ["script", "k"] (spDraw K)) : FnOk P w K mg base CX0 3 f fd ["script", "things"] (spElders K) := by
  refine F.ok sc_elders (fun vs H Q E h => ?_) (fun cdv A outer s H vs Q E hr h => ?_)
  · obtain ⟨a, ns, n, rfl, _⟩ := h
    rfl
  obtain ⟨a, ns, n, rfl, hS, h1, h14, q⟩ := h
  have mn_range := N.range
  have mn_min := N.min
  have hnd := sc_elders.nd
  have hpo := @PassesOwn.never
  refine ⟨_, (pss_cons (ps_set (i := 2) hnd rfl (by first | exact Or.inl rfl | exact Or.inr rfl) (pe_lst pa_nil))
    (pss_cons (ps_set (i := 3) hnd rfl (by first | exact Or.inl rfl | exact Or.inr rfl) (pe_op op_mod (pe_def D_law_draw hr pass0 (pa_cons (pv 0) (pa_cons pe_int pa_nil))) pe_int))
    (pss_cons (ps_for hpo rfl (pi_range1 (by rfl) mn_range (pa_cons (pe_op op_sub (pv 1) pe_int) pa_nil)) (pg_name (i := 4) hnd rfl (by first | exact Or.inl rfl | exact Or.inr rfl)) (pss_cons (ps_set (i := 5) hnd rfl (by first | exact Or.inl rfl | exact Or.inr rfl) (pe_def D_law_draw hr pass0 (pa_cons (pv 0) (pa_cons (pe_op op_add pe_int (pv 4)) pa_nil))))
      (pss_one (ps_expr (pe_bm PySem.F.plainAttrs_list PySem.F.slot_list_append PySem.F.type_list_append mt_append (pv 2) (pa_cons (pe_ix ix_list (pe_lst (pa_cons (pe_op op_mod (pv 5) (pe_op op_add (pv 4) pe_int)) (pa_cons (pe_op op_sub (pv 4) (pe_op op_fdiv (pe_op op_mod (pv 5) (pe_op op_add (pv 4) pe_int)) pe_int)) (pa_cons (pe_op op_mod (pv 5) (pe_callB (call_min2 rfl) (by rfl) mn_min bo_min (pa_cons (pe_op op_add (pv 4) pe_int) (pa_cons pe_int pa_nil)))) (pa_cons (pe_op op_fdiv (pe_op op_add (pv 4) (pe_op op_mod (pv 5) pe_int)) pe_int) pa_nil))))) (pv 3) (fun _ _ => rfl)) pa_nil))))))
    (pss_one (ps_ret (pv 2)))))), ?_⟩
  refine ⟨(by show 0 ≤ sizeLine; decide), fun r hr0 => ?_⟩
  have s1 : Same H (upd H r (.lst [])) := same_new hr0 _
  refine ⟨_, rfl, a, ns, 2, rfl, s1.seq hS, by decide, by decide, fun d d0 d1 => ⟨_, _, rfl, rfl, (by show (0 : Int) < 4; decide), ?_⟩⟩
  have w0 : 0 ≤ d % 4 := Int.emod_nonneg _ (by decide)
  have w1 : d % 4 < 4 := Int.emod_lt_of_pos _ (by decide)
  refine ⟨_, rfl, _, _, rfl, rfl, n - 1, rfl, by omega, by omega, for_range (n := (n - 1).toNat) (fun i σ H2 => ∃ (es : List Nat) (kv cv : Option V), σ = [some (.ref a), some (.int n), some (.ref r), some (.int (d % 4)), kv, cv] ∧ Same H H2 ∧ H2 r = some (.lst (nats es)) ∧ es.length = i ∧ Eld es)
    ⟨[], none, none, rfl, s1, upd_same, rfl, fun k hk => absurd hk (Nat.not_lt_zero _)⟩ ?_ ?_⟩
  · rintro i σ H2 hi ⟨es, kv, cv, rfl, s2, hl, he, hE⟩
    refine ⟨_, rfl, _, rfl, _, _, rfl, rfl, a, ns, 10 + (0 + (i : Int)), rfl, s2.seq hS, by omega, by omega, fun c c0 c1 => ?_⟩
    obtain ⟨m, hm, hv⟩ := four_ways (i := i) w0 w1 c0
    have p1 : (0 : Int) < 0 + (i : Int) + 1 := by omega
    have p3 : (0 : Int) < (if 3 < 0 + (i : Int) + 1 then 3 else 0 + (i : Int) + 1) := by split <;> omega
    refine ⟨_, rfl, .inl ⟨rfl, _, SqL.of hl⟩, ?_⟩
    refine ⟨_, rfl, _, rfl, _, _, rfl, rfl, _, _, rfl, rfl, p1, ?_⟩
    refine ⟨_, rfl, _, rfl, _, rfl, _, _, rfl, rfl, _, _, rfl, rfl, p1, _, _, rfl, rfl, ⟨by decide, by decide⟩, _, _, rfl, rfl, ?_⟩
    refine ⟨_, rfl, _, rfl, _, _, rfl, rfl, _, _, rfl, _, _, rfl, rfl, p3, ?_⟩
    refine ⟨_, rfl, _, rfl, _, _, rfl, rfl, (by show (0 : Int) < 2; decide), _, _, rfl, rfl, _, _, rfl, rfl, ⟨by decide, by decide⟩, ?_⟩
    refine ⟨(by show 4 ≤ sizeLine; decide), fun p hp => ?_⟩
    have s3 : ∀ o, Same H2 (upd H2 p o) := fun o => same_new hp o
    refine ⟨_, rfl, p, _, _, _, rfl, rfl, SqL.of upd_same, hv, ?_⟩
    refine ⟨r, _, _, rfl, rfl, s3 _ _ _ hl, small1000 (by rw [nats_length]; omega), ?_⟩
    refine ⟨es ++ [m], _, _, rfl, same_upd (s2.trans (s3 _)) hr0, ?_, by rw [List.length_append, he]; rfl, eld_snoc hE (by omega)⟩
    rw [upd_same, nats_app]; rfl
  · rintro σ H2 ⟨es, kv, cv, rfl, s2, hl, he, hE⟩
    exact ⟨_, rfl, q r es H2 hr0 s2 hl (by omega) hE⟩
theorem sc_tree : FnScope ["script", "most", "things", "top"] ["script", "most"] (defScope s_tree) := ⟨rfl, rfl, rfl, by decide +kernel, rfl, by decide +kernel, by decide +kernel⟩
theorem three_tops {k : Int} (k0 : 0 ≤ k) (k1 : k < 3) : ∃ t : Int, 0 < t ∧ t ≤ 1001 ∧ atI [V.int 10, .int 2, .int 1001] k = some (.int t) := by
  have hk : k = 0 ∨ k = 1 ∨ k = 2 := by omega
  rcases hk with rfl | rfl | rfl
  · exact ⟨10, by decide, by decide, rfl⟩
  · exact ⟨2, by decide, by decide, rfl⟩
  · exact ⟨1001, by decide, by decide, rfl⟩
theorem ok_tree (F : Fun K "_law_tree" "_law_tree" s_tree f fd) (N : Nm mg) (D_law_draw : DefOk P w K mg base CX0 "_law_draw" 2 ["script", "k"] (spDraw K)) (D_law_elders : DefOk P w K mg base CX0 "_law_elders" 3 ["script", "things"] (spElders K)) :
    FnOk P w K mg base CX0 4 f fd ["script", "most"] (spTree K) := by
  refine F.ok sc_tree (fun vs H Q E h => ?_) (fun cdv A outer s H vs Q E hr h => ?_)
  · obtain ⟨a, ns, n, rfl, _⟩ := h
    rfl
  obtain ⟨a, ns, m, rfl, hS, h1, h14, q⟩ := h
  have mn_range := N.range
  have hnd := sc_tree.nd
  refine ⟨_, (pss_cons (ps_set (i := 2) hnd rfl (by first | exact Or.inl rfl | exact Or.inr rfl) (pe_op op_add pe_int (pe_op op_mod (pe_def D_law_draw hr pass0 (pa_cons (pv 0) (pa_cons pe_int pa_nil))) (pv 1))))
    (pss_cons (ps_set (i := 3) hnd rfl (by first | exact Or.inl rfl | exact Or.inr rfl) (pe_ix ix_list (pe_lst (pa_cons pe_int (pa_cons pe_int (pa_cons pe_int pa_nil)))) (pe_op op_mod (pe_def D_law_draw hr pass0 (pa_cons (pv 0) (pa_cons pe_int pa_nil))) pe_int) (fun _ _ => rfl)))
    (pss_one (ps_ret (pe_tup (pa_cons (pe_def D_law_elders hr pass0 (pa_cons (pv 0) (pa_cons (pv 2) pa_nil))) (pa_cons (pe_lcB rfl hnd (pi_range1 (by rfl) mn_range (pa_cons (pv 2) pa_nil)) (fun cl C s0 H0 fp pn => pts_nil) (fun cl C s0 H0 fp pn => (pe_op op_mod (pe_def D_law_draw hr pass0 (pa_cons (pv 1) (pa_cons (pe_op op_add pe_int (pv 0)) pa_nil))) (pv 4))) (by kernel_rfl)) pa_nil))))))), ?_⟩
  refine ⟨_, rfl, a, ns, 1, rfl, hS, by decide, by decide, fun d d0 d1 => ⟨_, rfl, _, _, rfl, rfl, (by show (0 : Int) < m; omega), _, _, rfl, rfl, ?_⟩⟩
  have t0 : 0 ≤ d % m := Int.emod_nonneg _ (by omega)
  have t1 : d % m < m := Int.emod_lt_of_pos _ (by omega)
  refine ⟨(by show 3 ≤ sizeLine; decide), fun p hp => ?_⟩
  have s1 : Same H (upd H p (.lst [.int 10, .int 2, .int 1001])) := same_new hp _
  refine ⟨_, rfl, a, ns, 3, rfl, s1.seq hS, by decide, by decide, fun c c0 c1 => ?_⟩
  obtain ⟨tp, tp0, tp1, htp⟩ := three_tops (Int.emod_nonneg c (by decide : (3 : Int) ≠ 0)) (Int.emod_lt_of_pos c (by decide : (0 : Int) < 3))
  refine ⟨_, _, rfl, rfl, (by show (0 : Int) < 3; decide), p, _, _, _, rfl, rfl, SqL.of upd_same, htp, ?_⟩
  refine ⟨_, rfl, _, rfl, a, ns, 1 + d % m, rfl, s1.seq hS, by omega, by omega, fun e es H2 he s2 hl hn hE => ?_⟩
  refine ⟨_, rfl, 1 + d % m, rfl, by omega, by omega, ?_⟩
  refine lc_rangeY (n := (1 + d % m).toNat) (fun i ys H3 => ∃ ws : List Nat, ys = nats ws ∧ ws.length = i ∧ (∀ v ∈ ws, v ≤ 1000) ∧ H3 = H2) ⟨[], rfl, rfl, (fun v hv => nomatch hv), rfl⟩ (by omega)
    (fun i ys H3 ⟨ws, e1, e2, _⟩ => by rw [e1, nats_length, e2]; exact Nat.le_refl _) ?_ ?_
  · rintro i ys H3 hi ⟨ws, rfl, e2, e3, rfl⟩
    refine ⟨_, rfl, _, rfl, _, _, rfl, rfl, a, ns, 30 + (0 + (i : Int)), rfl, s2.seq (s1.seq hS), by omega, by omega, fun g g0 g1 => ⟨_, rfl, _, _, rfl, rfl, tp0, ?_⟩⟩
    have u0 : 0 ≤ g % tp := Int.emod_nonneg _ (by omega)
    have u1 : g % tp < tp := Int.emod_lt_of_pos _ tp0
    refine ⟨ws ++ [(g % tp).toNat], ?_, by rw [List.length_append, e2]; rfl, fun v hv => ?_, rfl⟩
    · rw [nats_app]
      show _ = nats ws ++ [V.int ((g % tp).toNat : Nat)]
      rw [Int.toNat_of_nonneg u0]
    · rcases List.mem_append.mp hv with hv | hv
      · exact e3 v hv
      · have : v = (g % tp).toNat := by simpa using hv
        omega
  · rintro ys H3 ⟨ws, rfl, e2, e3, rfl⟩ r hr0
    refine ⟨(by show 2 ≤ sizeLine; decide), fun t ht => ?_⟩
    have s3 : Same H3 (upd H3 r (.lst (nats ws))) := same_new hr0 _
    have s4 : Same (upd H3 r (.lst (nats ws))) (upd (upd H3 r (.lst (nats ws))) t (.tup [.ref e, .ref r])) := same_new ht _
    have s12 : Same H H3 := s1.trans s2
    refine q t e r es ws _ (s12.free (s3.free ht)) (s1.free he) (s12.free hr0) (ne_of_none hl hr0) ((s12.trans s3).trans s4) upd_same (s4 _ _ (s3 _ _ hl)) (s4 _ _ upd_same) ⟨by omega, by omega, hE, e3⟩ (by omega)
end
end FT
set_option Elab.async false
set_option maxHeartbeats 4000000
set_option maxRecDepth 20000
namespace FT
open PySem L2 TM
abbrev s_lengths : Stmt := (top 8)
abbrev s_chkE : Stmt := (top 9)
abbrev s_chkW : Stmt := (top 10)
abbrev s_init : Stmt := (inClass (top 11) 0)
abbrev s_getE : Stmt := (inClass (top 11) 1)
abbrev s_getW : Stmt := (inClass (top 11) 2)
/-- what the walk asks of the class Tree, and of the two numbers at the top -/
structure Txt (K : PySem.W.Frag) (mg : Str → Option Value) (C : Addr) : Prop where
  cl : Cls K C
  nE : NoAttr K C "elder_row"
  nW : NoAttr K C "worth_row"
  th : ∃ tk, mg "MOST_THINGS" = some (.int 14 tk)
  wo : ∃ tk, mg "MOST_WORTH" = some (.int 1000 tk)
section
variable {P : Program} {w : World} {K : PySem.W.Frag} {mg : Str → Option Value} {base : Heap} {f C : Addr} {fd : FuncData}
theorem sc_lengths : FnScope ["elders", "worths"] ["elders", "worths"] (defScope s_lengths) := ⟨rfl, rfl, rfl, by decide +kernel, rfl, by decide +kernel, by decide +kernel⟩
theorem ok_lengths (F : Fun K "check_lengths" "check_lengths" s_lengths f fd) (N : Nm mg) (T : Txt K mg C) : FnOk P w K mg base CX0 1 f fd ["elders", "worths"] (spLengths K) := by
  refine F.ok sc_lengths (fun vs H Q E h => ?_) (fun cdv A outer s H vs Q E hr h => ?_)
  · obtain ⟨a, b, es, ws, rfl, _⟩ := h
    rfl
  obtain ⟨a, b, es, ws, rfl, ha, hb, G, q⟩ := h
  have mn_len := N.len
  obtain ⟨tk, hm_MOST_THINGS⟩ := T.th
  have hlen := G.len
  have hmost := G.most
  refine ⟨_, (pss_cons (ps_if (PW.pt (pw_or (pt_cmpR op_lt (pe_callB call_len_seq (by rfl) mn_len PySem.boot_len (pa_cons (pv 1) pa_nil)) pe_int (nomark _)) (pw_or1 (pt_cmpR op_gt (pe_callB call_len_seq (by rfl) mn_len PySem.boot_len (pa_cons (pv 1) pa_nil)) (pe_const hm_MOST_THINGS) (nomark _))))) (pss_one ps_never) pss_nil)
    (pss_one (ps_if (pt_cmpR op_ne (pe_callB call_len_seq (by rfl) mn_len PySem.boot_len (pa_cons (pv 0) pa_nil)) (pe_op op_sub (pe_callB call_len_seq (by rfl) mn_len PySem.boot_len (pa_cons (pv 1) pa_nil)) pe_int) (nomark _)) (pss_one ps_never) pss_nil))), ?_⟩
  refine ⟨_, rfl, b, _, rfl, .inl hb, _, _, rfl, rfl, _, rfl, ite2 (fun c => ?_) (fun _ => ?_)⟩
  · have c' : (((nats ws).length : Nat) : Int) < 1 := of_decide_eq_true c
    rw [nats_length] at c'
    exact absurd c' (by omega)
  refine ⟨_, rfl, b, _, rfl, .inl hb, _, _, rfl, rfl, _, rfl, ite2 (fun c => ?_) (fun _ => ?_)⟩
  · have c' : (14 : Int) < (((nats ws).length : Nat) : Int) := of_decide_eq_true c
    rw [nats_length] at c'
    exact absurd c' (by omega)
  refine ⟨_, rfl, a, _, rfl, .inl ha, _, rfl, b, _, rfl, .inl hb, _, _, rfl, rfl, rfl, _, rfl, ?_⟩
  refine iteNS ?_ q
  rw [nats_length, nats_length]
  exact congrArg V.int (by omega)
theorem sc_chkE : FnScope ["elders", "thing", "elder"] ["elders"] (defScope s_chkE) := ⟨rfl, rfl, rfl, by decide +kernel, rfl, by decide +kernel, by decide +kernel⟩
theorem ok_chkE (F : Fun K "check_elders" "check_elders" s_chkE f fd) (N : Nm mg) : FnOk P w K mg base CX0 1 f fd ["elders"] spChkE := by
  refine F.ok sc_chkE (fun vs H Q E h => ?_) (fun cdv A outer s H vs Q E hr h => ?_)
  · obtain ⟨a, es, rfl, _⟩ := h
    rfl
  obtain ⟨a, es, rfl, ha, hE, h14, q⟩ := h
  have mn_enumerate := N.enumerate
  have hnd := sc_chkE.nd
  have hpo := @PassesOwn.never
  refine ⟨_, (pss_one (ps_for hpo rfl (pi_enumS mn_enumerate (pa_cons (pv 0) pa_nil)) (pg_tup rfl (pgs_cons (pg_name (i := 1) hnd rfl (by first | exact Or.inl rfl | exact Or.inr rfl)) (pgs_cons (pg_name (i := 2) hnd rfl (by first | exact Or.inl rfl | exact Or.inr rfl)) pgs_nil))) (pss_one (ps_if (PW.pt (pw_or (pt_cmpR op_lt (pv 2) pe_int (nomark _)) (pw_or1 (pt_cmpR op_ge (pv 2) (pv 1) (nomark _))))) (pss_one ps_never) pss_nil)))), ?_⟩
  refine ⟨_, rfl, a, _, rfl, ha, for_enum (xs := nats es) (fun i σ H2 => ∃ u v, σ = [some (.ref a), u, v] ∧ Same H H2) ⟨none, none, rfl, Same.refl H⟩ (fun i σ H2 _ ⟨_, _, _, s2⟩ => SqL.of (s2 _ _ ha)) ?_ ?_⟩
  · rintro i x σ H2 p hx ⟨u, v, rfl, s2⟩ hp
    have hi : i < es.length := by
      have := (List.getElem?_eq_some_iff.mp hx).1
      rwa [nats_length] at this
    rw [nats_get hi] at hx
    have e4 := Option.some.inj hx
    subst e4
    have hel := hE i hi
    refine ⟨p, _, rfl, SqT.of upd_same, rfl, _, _, rfl, _, _, rfl, rfl, ?_⟩
    refine ⟨_, rfl, _, _, rfl, rfl, _, rfl, ite2 (fun c => ?_) (fun _ => ?_)⟩
    · have c' : ((es.getD i 0 : Nat) : Int) < 0 := of_decide_eq_true c
      exact absurd c' (by omega)
    refine ⟨_, rfl, _, rfl, _, _, rfl, rfl, _, rfl, ite2 (fun c => ?_) (fun _ => ?_)⟩
    · have c' : (1 : Int) + (i : Nat) ≤ ((es.getD i 0 : Nat) : Int) := of_decide_eq_true c
      exact absurd c' (by omega)
    exact ⟨_, _, rfl, s2.trans (same_new hp _)⟩
  · rintro σ H2 ⟨u, v, rfl, s2⟩
    exact q H2 s2
theorem sc_chkW : FnScope ["worths", "worth"] ["worths"] (defScope s_chkW) := ⟨rfl, rfl, rfl, by decide +kernel, rfl, by decide +kernel, by decide +kernel⟩
theorem ok_chkW (F : Fun K "check_worths" "check_worths" s_chkW f fd) (T : Txt K mg C) : FnOk P w K mg base CX0 1 f fd ["worths"] (spChkW K) := by
  refine F.ok sc_chkW (fun vs H Q E h => ?_) (fun cdv A outer s H vs Q E hr h => ?_)
  · obtain ⟨a, ws, rfl, _⟩ := h
    rfl
  obtain ⟨a, ws, rfl, ha, h14, hW, q⟩ := h
  have hnd := sc_chkW.nd
  have hpo := @PassesOwn.never
  obtain ⟨tk, hm_MOST_WORTH⟩ := T.wo
  refine ⟨_, (pss_one (ps_for hpo rfl (pi_list (pv 0)) (pg_name (i := 1) hnd rfl (by first | exact Or.inl rfl | exact Or.inr rfl)) (pss_one (ps_if (PW.pt (pw_or (pt_cmpR op_lt (pv 1) pe_int (nomark _)) (pw_or1 (pt_cmpR op_gt (pv 1) (pe_const hm_MOST_WORTH) (nomark _))))) (pss_one ps_never) pss_nil)))), ?_⟩
  refine ⟨_, rfl, a, rfl, ⟨_, ha⟩, for_list (xs := nats ws) (fun i σ H2 => ∃ u, σ = [some (.ref a), u] ∧ H2 = H) ⟨none, rfl, rfl⟩ (fun i σ H2 _ ⟨_, _, e⟩ => by rw [e]; exact ha) ?_ ?_⟩
  · rintro i x σ H2 hx ⟨u, rfl, rfl⟩
    have hi : i < ws.length := by
      have := (List.getElem?_eq_some_iff.mp hx).1
      rwa [nats_length] at this
    rw [nats_get hi] at hx
    have e4 := Option.some.inj hx
    subst e4
    have hm : ws.getD i 0 ≤ 1000 := hW _ (by rw [List.getD_eq_getElem?_getD, List.getElem?_eq_getElem hi]; exact List.getElem_mem hi)
    refine ⟨_, rfl, _, _, rfl, rfl, _, rfl, ite2 (fun c => ?_) (fun _ => ?_)⟩
    · have c' : ((ws.getD i 0 : Nat) : Int) < 0 := of_decide_eq_true c
      exact absurd c' (by omega)
    refine ⟨_, rfl, _, _, rfl, rfl, _, rfl, ite2 (fun c => ?_) (fun _ => ?_)⟩
    · have c' : (1000 : Int) < ((ws.getD i 0 : Nat) : Int) := of_decide_eq_true c
      exact absurd c' (by omega)
    exact ⟨_, rfl, rfl⟩
  · rintro σ H2 ⟨u, rfl, rfl⟩
    exact q
theorem sc_init : FnScope ["self", "elders", "worths"] ["self", "elders", "worths"] (defScope s_init) := ⟨rfl, rfl, rfl, by decide +kernel, rfl, by decide +kernel, by decide +kernel⟩
theorem ok_init (F : Fun K "__init__" "Tree.__init__" s_init f fd) (N : Nm mg) (T : Txt K mg C) (Dcheck_lengths : DefOk P w K mg base CX0 "check_lengths" 1 ["elders", "worths"] (spLengths K))
    (Dcheck_elders : DefOk P w K mg base CX0 "check_elders" 1 ["elders"] spChkE) (Dcheck_worths : DefOk P w K mg base CX0 "check_worths" 1 ["worths"] (spChkW K)) : FnOk P w K mg base CX0 2 f fd ["self", "elders", "worths"] (spInit C) := by
  refine F.ok sc_init (fun vs H Q E h => ?_) (fun cdv A outer s H vs Q E hr h => ?_)
  · obtain ⟨x, dx, a, b, es, ws, rfl, _⟩ := h
    rfl
  obtain ⟨x, dx, a, b, es, ws, rfl, hx, ha, hb, G, q⟩ := h
  have mn_tuple := N.tuple
  have hlen := G.len
  have hmost := G.most
  refine ⟨_, (pss_cons (ps_expr (pe_def Dcheck_lengths hr pass0 (pa_cons (pv 1) (pa_cons (pv 2) pa_nil))))
    (pss_cons (ps_expr (pe_def Dcheck_elders hr pass0 (pa_cons (pv 1) pa_nil)))
    (pss_cons (ps_expr (pe_def Dcheck_worths hr pass0 (pa_cons (pv 2) pa_nil)))
    (pss_cons (ps_fld (pv 0) (pe_callTy call_tuple_of (by rfl) mn_tuple bo_tuple (pa_cons (pv 1) pa_nil)) rfl)
    (pss_one (ps_fld (pv 0) (pe_callTy call_tuple_of (by rfl) mn_tuple bo_tuple (pa_cons (pv 2) pa_nil)) rfl)))))), ?_⟩
  refine ⟨_, rfl, _, rfl, a, b, es, ws, rfl, SqL.of ha, SqL.of hb, G, ?_⟩
  refine ⟨_, rfl, a, es, rfl, ha, G.lt, by omega, fun H2 s2 => ?_⟩
  refine ⟨_, rfl, b, ws, rfl, SqL.of (s2 _ _ hb), hmost, G.wo, ?_⟩
  have hx2 := s2 _ _ hx
  refine ⟨_, rfl, a, _, rfl, .inl ⟨SqL.of (s2 _ _ ha), fun p hp => ?_⟩⟩
  have s3 := same_new hp (.tup (nats es))
  refine ⟨_, rfl, x, C, dx, _, rfl, s3 _ _ hx2, T.cl, T.nE, (by show 0 < 1000; decide), ?_⟩
  have nxa : a ≠ x := ne_of (s2 _ _ ha) hx2 (by intro z; cases z)
  have nxb : b ≠ x := ne_of (s2 _ _ hb) hx2 (by intro z; cases z)
  have nxp : p ≠ x := (ne_of_none hx2 hp).symm
  refine ⟨_, rfl, b, _, rfl, .inl ⟨SqL.of (by rw [upd_ne nxb]; exact s3 _ _ (s2 _ _ hb)), fun r hr0 => ?_⟩⟩
  have nrx : x ≠ r := fun e => by rw [← e, upd_same] at hr0; cases hr0
  have nrp : p ≠ r := fun e => by rw [← e, upd_ne nxp, upd_same] at hr0; cases hr0
  refine ⟨_, rfl, x, C, dx, _, rfl, (by rw [upd_ne nrx, upd_same]), T.cl, T.nW, (by show 1 < 1000; decide), ?_⟩
  refine q _ (fun c o hc e => ?_) ⟨dx, p, r, upd_same, ?_, ?_⟩
  · have e2 := s2 _ _ e
    have cp : c ≠ p := ne_of_none e2 hp
    have cr : c ≠ r := fun z => by rw [← z, upd_ne hc, upd_ne cp, e2] at hr0; cases hr0
    rw [upd_ne hc, upd_ne cr, upd_ne hc, upd_ne cp]
    exact e2
  · rw [upd_ne nxp, upd_ne nrp, upd_ne nxp, upd_same]
  · rw [upd_ne nrx.symm, upd_same]
theorem sc_getE : FnScope ["self"] ["self"] (defScope s_getE) := ⟨rfl, rfl, rfl, by decide +kernel, rfl, by decide +kernel, by decide +kernel⟩
theorem ok_getE (F : Fun K "elders" "Tree.elders" s_getE f fd) (N : Nm mg) (T : Txt K mg C) : FnOk P w K mg base CX0 1 f fd ["self"] (spGetE C) := by
  refine F.ok sc_getE (fun vs H Q E h => ?_) (fun cdv A outer s H vs Q E hr h => ?_)
  · obtain ⟨x, es, ws, rfl, _⟩ := h
    rfl
  obtain ⟨x, es, ws, rfl, ⟨dx, p, r, hx, hp, hr0⟩, q⟩ := h
  have mn_list := N.list
  refine ⟨_, (pss_one (ps_ret (pe_callTy call_list_of (by rfl) mn_list bo_list (pa_cons (pe_fld (pv 0) rfl) pa_nil)))), ?_⟩
  exact ⟨_, rfl, x, C, dx, _, _, rfl, hx, T.cl, T.nE, row_e _ _, p, _, rfl, .inr (SqT.of hp), q⟩
theorem sc_getW : FnScope ["self"] ["self"] (defScope s_getW) := ⟨rfl, rfl, rfl, by decide +kernel, rfl, by decide +kernel, by decide +kernel⟩
theorem ok_getW (F : Fun K "worths" "Tree.worths" s_getW f fd) (N : Nm mg) (T : Txt K mg C) : FnOk P w K mg base CX0 1 f fd ["self"] (spGetW C) := by
  refine F.ok sc_getW (fun vs H Q E h => ?_) (fun cdv A outer s H vs Q E hr h => ?_)
  · obtain ⟨x, es, ws, rfl, _⟩ := h
    rfl
  obtain ⟨x, es, ws, rfl, ⟨dx, p, r, hx, hp, hr0⟩, q⟩ := h
  have mn_list := N.list
  refine ⟨_, (pss_one (ps_ret (pe_callTy call_list_of (by rfl) mn_list bo_list (pa_cons (pe_fld (pv 0) rfl) pa_nil)))), ?_⟩
  exact ⟨_, rfl, x, C, dx, _, _, rfl, hx, T.cl, T.nW, row_w _ _, r, _, rfl, .inr (SqT.of hr0), q⟩
end
end FT
set_option Elab.async false
set_option maxHeartbeats 4000000
set_option maxRecDepth 20000
namespace FT
open PySem L2 TM TX
abbrev s_shown : Stmt := (top 15)
abbrev s_isnum : Stmt := (top 16)
abbrev s_numof : Stmt := (top 17)
abbrev s_halves : Stmt := (top 18)
abbrev s_read : Stmt := (top 19)
theorem bo_str : bootBuiltins "str" = some (.type "str") := by decide +kernel
theorem bo_all : bootBuiltins "all" = some (.builtin "all") := by decide +kernel
/-- more names of Python's own, and the two constants of the notes -/
structure Nm7 (mg : Str → Option Value) : Prop where
  str : mg "str" = none
  zip : mg "zip" = none
  all : mg "all" = none
  fig : ∃ tk, mg "FIGURES" = some (.str "0123456789" tk)
  most : ∃ tk, mg "MOST_FIGURES" = some (.int 4 tk)
section
variable (C : Addr)
def spShown : Sp := fun vs H Q _ => ∃ (x : Addr) (es ws : List Nat), vs = [.ref x] ∧ IsTree C H x es ws ∧ Good es ws ∧ ∀ H', Same H H' → Q (.str (text es ws)) H'
def spIsNum : Sp := fun vs H Q _ => ∃ n, vs = [.str (num n)] ∧ n ≤ 1000 ∧ ∀ H', Same H H' → Q (.bl true) H'
def spNumOf : Sp := fun vs H Q _ => ∃ n, vs = [.str (num n)] ∧ n ≤ 1000 ∧ ∀ H', Same H H' → Q (.int (n : Nat)) H'
def spHalves : Sp := fun vs H Q _ => ∃ (es ws : List Nat) (k : Nat), vs = [.str (word es ws k)] ∧ Good es ws ∧ ∀ (r : Addr) (H' : Hp), H r = none → Same H H' → H' r = some (.lst [.str (eld es k), .str (num (ws.getD k 0))]) → Q (.ref r) H'
def spRead : Sp := fun vs H Q _ => ∃ (es ws : List Nat), vs = [.str (text es ws)] ∧ Good es ws ∧ ∀ (x : Addr) (H' : Hp), Same H H' → IsTree C H' x es ws → Q (.ref x) H'
end
section
variable {P : Program} {w : World} {K : PySem.W.Frag} {mg : Str → Option Value} {base : Heap} {f C : Addr} {fd : FuncData}
theorem take_map_succ {α : Type} (g : Nat → α) {l : List Nat} {i : Nat} (h : i < l.length) : (l.take (i + 1)).map g = (l.take i).map g ++ [g (l.getD i 0)] := by
  rw [List.take_add_one, List.getElem?_eq_getElem h, List.map_append, List.getD_eq_getElem?_getD, List.getElem?_eq_getElem h]; rfl
/-- what stands ahead of the colons -/
def eldVs (es : List Nat) : List V := (List.range (es.length + 1)).map fun k => V.str (eld es k)
theorem eldVs_is (es : List Nat) : [V.str dash] ++ es.map (fun e => V.str (num e)) = eldVs es := by
  unfold eldVs
  refine List.ext_getElem (by simp [Nat.add_comm]) fun i h1 h2 => ?_
  rw [List.getElem_map, List.getElem_range]
  cases i with
  | zero => rfl
  | succ j =>
    have hj : j < es.length := by simp at h1; omega
    show (es.map fun e => V.str (num e))[j]'(by rw [List.length_map]; exact hj) = V.str (eld es (j + 1))
    rw [List.getElem_map]
    unfold eld
    rw [if_neg (by omega), Nat.add_sub_cancel, List.getD_eq_getElem?_getD, List.getElem?_eq_getElem hj]; rfl
theorem sum_le {α : Type} (g : α → Nat) (m : Nat) : ∀ l : List α, (∀ x ∈ l, g x ≤ m) → (l.map g).sum ≤ l.length * m
  | [], _ => Nat.zero_le _
  | x :: l, h => by
    have h1 := h x List.mem_cons_self
    have h2 := sum_le g m l fun y hy => h y (List.mem_cons_of_mem _ hy)
    rw [List.map_cons, List.sum_cons, List.length_cons, Nat.succ_mul]; omega
theorem words_sum {es ws : List Nat} (G : Good es ws) : ((words es ws).map (·.length)).sum ≤ 14 * 9 := by
  have h1 := sum_le (fun x : Str => x.length) 9 (words es ws) fun x hx => by
    obtain ⟨k, _, rfl⟩ := List.mem_map.mp hx
    exact word_len G k
  have h2 := words_len es ws
  have h3 := G.len
  have h4 := G.most
  exact Nat.le_trans h1 (Nat.mul_le_mul_right _ (by omega))
theorem small_log {n : Nat} (h : n ≤ 1000) : ((n : Nat) : Int).natAbs.log2 < 1920 := by
  rw [Int.natAbs_natCast]
  exact Nat.lt_of_le_of_lt (Nat.log2_le_self n) (by omega)
theorem sc_shown : FnScope ["tree", "elders"] ["tree"] (defScope s_shown) := ⟨rfl, rfl, rfl, by decide +kernel, rfl, by decide +kernel, by decide +kernel⟩
theorem ok_shown (F : Fun K "shown" "shown" s_shown f fd) (N7 : Nm7 mg) (Melders : MethOk P w K mg base CX0 C "elders" 1 ["self"] (spGetE C)) (Mworths : MethOk P w K mg base CX0 C "worths" 1 ["self"] (spGetW C)) : FnOk P w K mg base CX0 2 f fd ["tree"] (spShown C) := by
  refine F.ok sc_shown (fun vs H Q E h => ?_) (fun cdv A outer s H vs Q E hr h => ?_)
  · obtain ⟨x, es, ws, rfl, _⟩ := h
    rfl
  obtain ⟨x, es, ws, rfl, I, G, q⟩ := h
  obtain ⟨dx, pe, pw, hx, hpe, hpw⟩ := id I
  have hnd := sc_shown.nd
  have mn_str := N7.str
  have mn_zip := N7.zip
  have hlen := G.len
  have hmost := G.most
  refine ⟨_, (pss_cons (ps_set (i := 1) hnd rfl (by first | exact Or.inl rfl | exact Or.inr rfl) (pe_op op_cat (pe_lst (pa_cons pe_str pa_nil)) (pe_lcB rfl hnd (pi_list (pe_me0 (pv 0) Melders hr pass0)) (fun cl C s0 H0 fp pn => pts_nil) (fun cl C s0 H0 fp pn => (pe_callTy call_str_int (by rfl) mn_str bo_str (pa_cons (pv 0) pa_nil))) (by kernel_rfl))))
    (pss_one (ps_ret (pe_bm PySem.F.plainAttrs_str PySem.F.slot_str_join PySem.F.type_str_join mt_join pe_str (pa_cons (pe_lcTB ["elder", "worth"] rfl hnd (pi_zip mn_zip (pa_cons (pv 1) (pa_cons (pe_me0 (pv 0) Mworths hr pass0) pa_nil))) (fun cl C s0 H0 fp pn => (pg_pair (by show List.Nodup (["elder", "worth", "tree", "elders"] : List Str); decide +kernel) rfl rfl rfl)) (fun cl C s0 H0 fp pn => pts_nil) (fun cl C s0 H0 fp pn => (pe_join (pj_cons (pe_fmtS (pv 0)) (pj_cons pe_str (pj_cons (pe_fmt (pv 1)) pj_nil))))) (by kernel_rfl)) pa_nil))))), ?_⟩
  have one : (1 : Nat) ≤ sizeLine := by decide
  refine ⟨one, fun l0 n0 => ?_⟩
  have s1 := same_new n0 (.lst [.str (Str.ofString "-")])
  have k1 : upd H l0 (.lst [.str (Str.ofString "-")]) l0 = some (.lst [.str dash]) := upd_same
  generalize upd H l0 (.lst [.str (Str.ofString "-")]) = H1 at s1 k1 ⊢
  refine ⟨_, rfl, x, dx, _, rfl, s1 _ _ hx, row_no _ _ (by decide +kernel) (by decide +kernel), x, es, ws, rfl, I.same s1, fun ea nea => ?_⟩
  have s2 := same_new nea (.lst (nats es))
  have k2 := upd_same (H := H1) (a := ea) (o := .lst (nats es))
  generalize upd H1 ea (.lst (nats es)) = H2 at s2 k2 ⊢
  refine ⟨ea, rfl, ⟨_, SqL.of k2⟩, ?_⟩
  refine lc_listY (xs := nats es) (fun i ys H3 => H3 = H2 ∧ ys = (es.take i).map fun e => V.str (num e)) ⟨rfl, rfl⟩ (by rw [nats_length]; omega) (fun i ys H3 ⟨_, e⟩ => by rw [e, List.length_map, List.length_take]; omega) (fun i ys H3 _ ⟨e, _⟩ => by rw [e]; exact SqL.of k2) ?_ ?_
  · rintro i y ys H3 hy ⟨rfl, rfl⟩
    have hi : i < es.length := by
      have := (List.getElem?_eq_some_iff.mp hy).1
      rwa [nats_length] at this
    rw [nats_get hi] at hy
    have hy' := Option.some.inj hy
    subst hy'
    refine ⟨_, rfl, _, rfl, small_log (e_le G), rfl, ?_⟩
    rw [take_map_succ _ hi]; rfl
  rintro ys H3 ⟨rfl, rfl⟩ l1 nl1
  rw [nats_length, List.take_length]
  have s3 := same_new nl1 (.lst (es.map fun e => V.str (num e)))
  have k3 := upd_same (H := H3) (a := l1) (o := .lst (es.map fun e => V.str (num e)))
  generalize upd H3 l1 (.lst (es.map fun e => V.str (num e))) = H4 at s3 k3 ⊢
  refine ⟨l0, l1, _, _, rfl, rfl, s3 _ _ (s2 _ _ k1), k3, small (by rw [List.length_map]; show 1 + _ ≤ _; omega), fun l2 nl2 => ?_⟩
  have s4 := same_new nl2 (.lst ([.str dash] ++ es.map fun e => V.str (num e)))
  have k4 : upd H4 l2 (.lst ([.str dash] ++ es.map fun e => V.str (num e))) l2 = some (.lst (eldVs es)) := by rw [upd_same, eldVs_is]
  generalize upd H4 l2 (.lst ([.str dash] ++ es.map fun e => V.str (num e))) = H5 at s4 k4 ⊢
  have s15 := s1.trans (s2.trans (s3.trans s4))
  refine ⟨rfl, _, rfl, _, rfl, x, dx, _, rfl, s15 _ _ hx, row_no _ _ (by decide +kernel) (by decide +kernel), x, es, ws, rfl, I.same s15, fun wa nwa => ?_⟩
  have s6 := same_new nwa (.lst (nats ws))
  have k6 := upd_same (H := H5) (a := wa) (o := .lst (nats ws))
  generalize upd H5 wa (.lst (nats ws)) = H6 at s6 k6 ⊢
  refine ⟨l2, wa, _, _, rfl, SqL.of (s6 _ _ k4), SqL.of k6, ?_⟩
  have le1 : (eldVs es).length = es.length + 1 := by unfold eldVs; rw [List.length_map, List.length_range]
  refine lc_zipY (xs := eldVs es) (ys := nats ws) (fun i zs H7 => Same H6 H7 ∧ zs = ((List.range i).map (word es ws)).map V.str) ⟨Same.refl _, rfl⟩ (by omega) (by rw [le1, nats_length]; omega) (fun i zs H7 ⟨_, e⟩ => by rw [e, List.length_map, List.length_map, List.length_range]; exact Nat.le_refl _)
    (fun i zs H7 _ ⟨s7, _⟩ => ⟨SqL.of (s7 _ _ (s6 _ _ k4)), SqL.of (s7 _ _ k6)⟩) ?_ ?_
  · rintro i u v zs H7 pp hu hv ⟨s7, rfl⟩ npp
    have hi : i < es.length + 1 := by
      have := (List.getElem?_eq_some_iff.mp hu).1
      omega
    have eu : u = .str (eld es i) := by
      unfold eldVs at hu
      rw [List.getElem?_map, List.getElem?_range hi] at hu
      exact (Option.some.inj hu).symm
    rw [nats_get (by omega)] at hv
    have ev := (Option.some.inj hv).symm
    subst eu ev
    have l1 := (eld_len G i).2
    have l2 := (num_len (w_le G (k := i))).2
    have l3 : col.length = 1 := by decide +kernel
    have z1 : (Str.empty ++ eld es i).length ≤ sizeLine := small (by rw [Str.empty_append]; omega)
    have z2 : (Str.empty ++ eld es i ++ col).length ≤ sizeLine := small (by rw [Str.empty_append, Str.length_append]; omega)
    have z3 : (Str.empty ++ eld es i ++ col ++ num (ws.getD i 0)).length ≤ sizeLine := small (by rw [Str.empty_append, Str.length_append, Str.length_append]; omega)
    refine ⟨pp, _, rfl, SqT.of upd_same, rfl, _, _, rfl, _, _, rfl, rfl, ⟨[_, _], rfl, rfl⟩, ?_⟩
    refine ⟨_, rfl, _, rfl, small (by omega), _, rfl, z1, _, rfl, z2, _, rfl, _, rfl, small_log (w_le G), _, rfl, z3, z3, s7.trans (same_new npp _), ?_⟩
    rw [List.range_succ, List.map_append, List.map_append]
    show _ ++ [V.str (Str.empty ++ eld es i ++ col ++ num (ws.getD i 0))] = _ ++ [V.str (word es ws i)]
    rw [Str.empty_append]; rfl
  · rintro zs H7 ⟨s7, rfl⟩ g ng
    rw [le1]
    refine ⟨_, g, words es ws, rfl, rfl, SqL.of upd_same, ?_, q _ (s15.trans (s6.trans (s7.trans (same_new ng _))))⟩
    have hs := words_sum G
    rw [words_len]
    have : (" " : Str).length = 1 := by decide +kernel
    rw [this]
    omega
theorem sc_isnum : FnScope ["part"] ["part"] (defScope s_isnum) := ⟨rfl, rfl, rfl, by decide +kernel, rfl, by decide +kernel, by decide +kernel⟩
theorem ok_isnum (F : Fun K "is_number" "is_number" s_isnum f fd) (N : Nm mg) (N7 : Nm7 mg) : FnOk P w K mg base CX0 1 f fd ["part"] spIsNum := by
  refine F.ok sc_isnum (fun vs H Q E h => ?_) (fun cdv A outer s H vs Q E hr h => ?_)
  · obtain ⟨n, rfl, _⟩ := h
    rfl
  obtain ⟨n, rfl, hn, q⟩ := h
  have hnd := sc_isnum.nd
  have mn_len := N.len
  have mn_all := N7.all
  obtain ⟨tk1, hm_FIGURES⟩ := N7.fig
  obtain ⟨tk2, hm_MOST_FIGURES⟩ := N7.most
  refine ⟨_, (pss_cons (ps_if (PW.pt (pw_or (pt_cmpR op_eq (pv 0) pe_str (nomark _)) (pw_or1 (pt_cmpR op_gt (pe_callB call_len_str (by rfl) mn_len PySem.boot_len (pa_cons (pv 0) pa_nil)) (pe_const hm_MOST_FIGURES) (nomark _))))) (pss_one (ps_ret pe_bl)) pss_nil)
    (pss_cons (ps_if (PW.pt (pw_and (pt_cmpR op_eq (pe_ix ix_str (pv 0) pe_int (fun _ _ => rfl)) pe_str (nomark _)) (pw_and1 (pt_cmpR op_ne (pv 0) pe_str (nomark _))))) (pss_one (ps_ret pe_bl)) pss_nil)
    (pss_one (ps_ret (pe_callB (call_allB rfl) (by rfl) mn_all bo_all (pa_cons (pe_lcB rfl hnd (pi_str (pv 0)) (fun cl C s0 H0 fp pn => pts_nil) (fun cl C s0 H0 fp pn => (pe_cmpR op_in_str (pv 0) (pe_constS hm_FIGURES) (by rfl))) (by kernel_rfl)) pa_nil)))))), ?_⟩
  obtain ⟨l1, l2⟩ := num_len hn
  have sl : (num n).length ≤ sizeLine := small (by omega)
  refine ⟨_, rfl, rfl, _, rfl, ite2 (fun c => ?_) (fun _ => ?_)⟩
  · have c' : V.str (num n) = V.str (Str.ofString "") := of_decide_eq_true c
    rw [V.str.inj c'] at l1
    exact absurd l1 (by decide +kernel)
  refine ⟨_, rfl, _, rfl, sl, _, _, rfl, rfl, _, rfl, ite2 (fun c => ?_) (fun _ => ?_)⟩
  · have c' : (4 : Int) < ((num n).length : Nat) := of_decide_eq_true c
    exact absurd c' (by omega)
  have h0 : 0 < (num n).cps.size := l1
  have hix : atI (num n).cps.toList ((0 : Nat) : Int) = some (num n).cps[0] := atI_nat (by rw [Array.getElem?_toList, Array.getElem?_eq_getElem h0])
  refine ⟨_, rfl, _, _, _, rfl, rfl, sl, hix, rfl, _, rfl, ite2 (fun c => ?_) (fun c => iteF ?_)⟩
  have c' : V.str ⟨#[(num n).cps[0]]⟩ = V.str (Str.ofString "0") := of_decide_eq_true c
  have hc : (num n).cps[0] = 48 := by
    have z := congrArg (fun s : Str => s.cps[0]?) (V.str.inj c')
    have z1 : (some (num n).cps[0] : Option Nat) = (Str.ofString "0").cps[0]? := z
    rw [show (Str.ofString "0").cps[0]? = some 48 by decide +kernel] at z1
    exact Option.some.inj z1
  have hz := num_zero hn (by rw [Array.getElem?_eq_getElem h0, hc])
  refine ⟨_, rfl, rfl, _, rfl, ?_⟩
  refine iteNS (congrArg V.str hz) ?_
  all_goals
    refine ⟨_, rfl, _, rfl, num_ascii hn, ?_⟩
    refine lc_strY (fun i ys H3 => H3 = H ∧ ys = (List.replicate i true).map V.bl) ⟨rfl, rfl⟩ (by omega) (fun i ys H3 ⟨_, e⟩ => by rw [e, List.length_map, List.length_replicate]; exact Nat.le_refl _) ?_ ?_
    · rintro i c ys H3 hc ⟨rfl, rfl⟩
      have hm : c ∈ sg (num n) := by
        obtain ⟨hi, e⟩ := Array.getElem?_eq_some_iff.mp hc
        rw [← e]; exact Array.getElem_mem_toList hi
      refine ⟨_, rfl, _, _, rfl, rfl, rfl, ?_⟩
      rw [show (!(Builtin.Str.occurrences (Str.ofString "0123456789") ⟨#[c]⟩ 0 (Str.ofString "0123456789").length 1).isEmpty) = true from fig_in (num_digits hn c hm), List.replicate_succ', List.map_append]; rfl
    · rintro ys H3 ⟨rfl, rfl⟩ g ng
      refine ⟨g, _, rfl, SqL.of upd_same, ?_⟩
      rw [show (List.replicate (num n).length true).all id = true from List.all_eq_true.mpr fun x hx => by rw [(List.mem_replicate.mp hx).2]; rfl]
      exact q _ (same_new ng _)
theorem sc_numof : FnScope ["part"] ["part"] (defScope s_numof) := ⟨rfl, rfl, rfl, by decide +kernel, rfl, by decide +kernel, by decide +kernel⟩
theorem ok_numof (F : Fun K "number_of" "number_of" s_numof f fd) (N : Nm mg) (Dis_number : DefOk P w K mg base CX0 "is_number" 1 ["part"] spIsNum) : FnOk P w K mg base CX0 2 f fd ["part"] spNumOf := by
  refine F.ok sc_numof (fun vs H Q E h => ?_) (fun cdv A outer s H vs Q E hr h => ?_)
  · obtain ⟨n, rfl, _⟩ := h
    rfl
  obtain ⟨n, rfl, hn, q⟩ := h
  have mn_int := N.int
  refine ⟨_, (pss_cons (ps_if (pt_not (pt_val (pe_def Dis_number hr pass0 (pa_cons (pv 0) pa_nil)))) (pss_one ps_never) pss_nil)
    (pss_one (ps_ret (pe_callTy call_intS (by rfl) mn_int bo_int (pa_cons (pv 0) pa_nil))))), ?_⟩
  refine ⟨_, rfl, n, rfl, hn, fun H2 s2 => ⟨_, rfl, iteF ?_⟩⟩
  exact ⟨_, rfl, _, _, rfl, PySem.W.KIN.num_reads (by omega) (by omega), (by have := (num_len hn).2; omega), q H2 s2⟩
theorem sc_halves : FnScope ["part", "halves"] ["part"] (defScope s_halves) := ⟨rfl, rfl, rfl, by decide +kernel, rfl, by decide +kernel, by decide +kernel⟩
theorem ok_halves (F : Fun K "halves_of" "halves_of" s_halves f fd) (N : Nm mg) : FnOk P w K mg base CX0 1 f fd ["part"] spHalves := by
  refine F.ok sc_halves (fun vs H Q E h => ?_) (fun cdv A outer s H vs Q E hr h => ?_)
  · obtain ⟨es, ws, k, rfl, _⟩ := h
    rfl
  obtain ⟨es, ws, k, rfl, G, q⟩ := h
  have hnd := sc_halves.nd
  have mn_len := N.len
  refine ⟨_, (pss_cons (ps_set (i := 1) hnd rfl (by first | exact Or.inl rfl | exact Or.inr rfl) (pe_bm PySem.F.plainAttrs_str PySem.F.slot_str_split PySem.F.type_str_split mt_split (pv 0) (pa_cons pe_str pa_nil)))
    (pss_cons (ps_if (pt_cmpR op_ne (pe_callB call_len_seq (by rfl) mn_len PySem.boot_len (pa_cons (pv 1) pa_nil)) pe_int (nomark _)) (pss_one ps_never) pss_nil)
    (pss_one (ps_ret (pv 1))))), ?_⟩
  have wl := word_len G k
  refine ⟨_, rfl, rfl, _, _, rfl, rfl, by decide +kernel, small (by omega), fun p np => ?_⟩
  have k1 : upd H p (.lst ((Txt.split (word es ws k) (Str.ofString ":")).map V.str)) p = some (.lst [.str (eld es k), .str (num (ws.getD k 0))]) := by
    rw [upd_same, show Txt.split (word es ws k) (Str.ofString ":") = _ from word_split G k]; rfl
  have s1 := same_new np (.lst ((Txt.split (word es ws k) (Str.ofString ":")).map V.str))
  generalize upd H p (.lst ((Txt.split (word es ws k) (Str.ofString ":")).map V.str)) = H1 at k1 s1 ⊢
  refine ⟨_, rfl, p, _, rfl, .inl (SqL.of k1), rfl, _, rfl, iteNS rfl ?_⟩
  exact ⟨_, rfl, q p H1 np s1 k1⟩
theorem sc_read : FnScope ["text", "pairs", "elders", "worths"] ["text"] (defScope s_read) := ⟨rfl, rfl, rfl, by decide +kernel, rfl, by decide +kernel, by decide +kernel⟩
theorem drop_cut (l : List V) : cutV l (some 1) none = l.drop 1 := by
  unfold cutV
  rw [show HT.sIx l.length 0 (some 1) = min 1 l.length from HT.sIx_nat _ _ 1, HT.sIx_none]
  cases l with
  | nil => rfl
  | cons a r =>
    rw [show min 1 (a :: r).length = 1 by rw [List.length_cons]; omega]
    exact List.take_of_length_le (by rw [List.length_drop]; exact Nat.le_refl _)
theorem ok_read (F : Fun K "read" "read" s_read f fd) (N : Nm mg) (Dhalves_of : DefOk P w K mg base CX0 "halves_of" 1 ["part"] spHalves) (Dnumber_of : DefOk P w K mg base CX0 "number_of" 2 ["part"] spNumOf) (DTree : ClsOk P w K mg base CX0 "Tree" C 2 ["self", "elders", "worths"] (spInit C)) : FnOk P w K mg base CX0 4 f fd ["text"] (spRead C) := by
  refine F.ok sc_read (fun vs H Q E h => ?_) (fun cdv A outer s H vs Q E hr h => ?_)
  · obtain ⟨es, ws, rfl, _⟩ := h
    rfl
  obtain ⟨es, ws, rfl, G, q⟩ := h
  have hnd := sc_read.nd
  have hlen := G.len
  have hmost := G.most
  refine ⟨_, (pss_cons (ps_setLC ["text", "pairs", "elders", "worths"] (i := 1) rfl hnd rfl rfl (pi_list (pe_bm PySem.F.plainAttrs_str PySem.F.slot_str_split PySem.F.type_str_split mt_split (pv 0) (pa_cons pe_str pa_nil))) (fun cl C s0 H0 fp pn => pts_nil) (fun cl C s0 H0 fp pn => (pe_def Dhalves_of hr pass0 (pa_cons (pv 0) pa_nil))) (by kernel_rfl))
    (pss_cons (ps_if (pt_cmpR op_ne (pe_ix ix_list (pe_ix ix_list (pv 1) pe_int (fun _ _ => rfl)) pe_int (fun _ _ => rfl)) pe_str (nomark _)) (pss_one ps_never) pss_nil)
    (pss_cons (ps_setLC ["text", "pairs", "elders", "worths"] (i := 2) rfl hnd rfl rfl (pi_list (pe_slice sl_list (pv 1) (po_some pe_int) po_none)) (fun cl C s0 H0 fp pn => pts_nil) (fun cl C s0 H0 fp pn => (pe_def Dnumber_of hr pass0 (pa_cons (pe_ix (ix_listK (K := K)) (pv 0) pe_int (fun _ _ => rfl)) pa_nil))) (by kernel_rfl))
    (pss_cons (ps_setLC ["text", "pairs", "elders", "worths"] (i := 3) rfl hnd rfl rfl (pi_list (pv 1)) (fun cl C s0 H0 fp pn => pts_nil) (fun cl C s0 H0 fp pn => (pe_def Dnumber_of hr pass0 (pa_cons (pe_ix (ix_listK (K := K)) (pv 0) pe_int (fun _ _ => rfl)) pa_nil))) (by kernel_rfl))
    (pss_one (ps_tryQ (pss_one (ps_ret (pe_cls DTree hr pass0 (pa_cons (pv 2) (pa_cons (pv 3) pa_nil))))))))))), ?_⟩
  have tl := textTo_len G es.length
  rw [textTo_all] at tl
  refine ⟨_, rfl, rfl, _, _, rfl, rfl, by decide +kernel, small (by omega), fun p np => ?_⟩
  have k1 : upd H p (.lst ((Txt.split (text es ws) (Str.ofString " ")).map V.str)) p = some (.lst ((words es ws).map V.str)) := by
    rw [upd_same, show Txt.split (text es ws) (Str.ofString " ") = _ from text_split G]
  have s1 := same_new np (.lst ((Txt.split (text es ws) (Str.ofString " ")).map V.str))
  generalize upd H p (.lst ((Txt.split (text es ws) (Str.ofString " ")).map V.str)) = H1 at k1 s1 ⊢
  refine ⟨p, rfl, ⟨_, SqL.of k1⟩, ?_⟩
  have lw : ((words es ws).map V.str).length = es.length + 1 := by rw [List.length_map, words_len]
  refine lc_listY (xs := (words es ws).map V.str) (fun i ys H3 => Same H1 H3 ∧ ∃ ls : List Addr, ys = ls.map V.ref ∧ ls.length = i ∧ ∀ (j : Nat) l, ls[j]? = some l → H3 l = some (.lst [.str (eld es j), .str (num (ws.getD j 0))])) ⟨Same.refl _, [], rfl, rfl, fun j l e => by simp at e⟩ (by omega)
    (fun i ys H3 ⟨_, ls, e, e2, _⟩ => by rw [e, List.length_map, e2]; exact Nat.le_refl _) (fun i ys H3 _ ⟨s3, _⟩ => SqL.of (s3 _ _ k1)) ?_ ?_
  · rintro i y ys H3 hy ⟨s3, ls, rfl, hls, hcont⟩
    have hi : i < es.length + 1 := by
      have := (List.getElem?_eq_some_iff.mp hy).1
      omega
    have ey : y = .str (word es ws i) := by
      rw [List.getElem?_map] at hy
      unfold words at hy
      rw [List.getElem?_map, List.getElem?_range hi] at hy
      exact (Option.some.inj hy).symm
    subst ey
    refine ⟨_, rfl, es, ws, i, rfl, G, fun r H4 nr s4 kr => ⟨s3.trans s4, ls ++ [r], by rw [List.map_append]; rfl, by rw [List.length_append, hls]; rfl, fun j l e => ?_⟩⟩
    by_cases hj : j < ls.length
    · rw [List.getElem?_append_left hj] at e
      exact s4 _ _ (hcont j l e)
    · have hj2 : j = i := by
        have := (List.getElem?_eq_some_iff.mp e).1
        rw [List.length_append] at this
        have : j < ls.length + 1 := this
        omega
      subst hj2
      rw [List.getElem?_append_right (by omega), hls, Nat.sub_self] at e
      cases e
      exact kr
  rintro ys H3 ⟨s3, ls, rfl, hls, hcont⟩ pa npa
  rw [lw] at hls
  have s4 := same_new npa (.lst (ls.map V.ref))
  have k4 := upd_same (H := H3) (a := pa) (o := .lst (ls.map V.ref))
  generalize upd H3 pa (.lst (ls.map V.ref)) = H4 at s4 k4 ⊢
  have hc4 : ∀ (j : Nat) l, ls[j]? = some l → H4 l = some (.lst [.str (eld es j), .str (num (ws.getD j 0))]) := fun j l e => s4 _ _ (hcont j l e)
  obtain ⟨l0, e0⟩ : ∃ l, ls[0]? = some l := ⟨_, List.getElem?_eq_getElem (by omega)⟩
  refine ⟨_, rfl, pa, _, _, _, rfl, rfl, SqL.of k4, (show atI (ls.map V.ref) ((0 : Nat) : Int) = some (.ref l0) from atI_nat (by rw [List.getElem?_map, e0]; rfl)), l0, _, _, _, rfl, rfl, SqL.of (hc4 0 l0 e0), (show atI [V.str (eld es 0), .str (num (ws.getD 0 0))] ((0 : Nat) : Int) = some (.str (eld es 0)) from atI_nat rfl), rfl, _, rfl, iteNS rfl ?_⟩
  refine ⟨_, rfl, 1, rfl, pa, _, rfl, SqL.of k4, fun c nc => ?_⟩
  rw [drop_cut, ← List.map_drop]
  have s5 := same_new nc (.lst ((ls.drop 1).map V.ref))
  have k5 := upd_same (H := H4) (a := c) (o := .lst ((ls.drop 1).map V.ref))
  generalize upd H4 c (.lst ((ls.drop 1).map V.ref)) = H5 at s5 k5 ⊢
  have ld : ((ls.drop 1).map V.ref).length = es.length := by rw [List.length_map, List.length_drop]; omega
  refine ⟨c, rfl, ⟨_, SqL.of k5⟩, ?_⟩
  refine lc_listY (xs := (ls.drop 1).map V.ref) (fun i ys H6 => Same H5 H6 ∧ ys = nats (es.take i)) ⟨Same.refl _, rfl⟩ (by omega) (fun i ys H6 ⟨_, e⟩ => by rw [e, nats_length, List.length_take]; omega) (fun i ys H6 _ ⟨s6, _⟩ => SqL.of (s6 _ _ k5)) ?_ ?_
  · rintro i y ys H6 hy ⟨s6, rfl⟩
    have hi : i < es.length := by
      have := (List.getElem?_eq_some_iff.mp hy).1
      omega
    obtain ⟨l, el, rfl⟩ : ∃ l, ls[1 + i]? = some l ∧ y = .ref l := by
      rw [List.getElem?_map, List.getElem?_drop] at hy
      cases z : ls[1 + i]? with
      | none => rw [z] at hy; cases hy
      | some l => rw [z] at hy; exact ⟨l, rfl, (Option.some.inj hy).symm⟩
    have ee : eld es (1 + i) = num (es.getD i 0) := by
      unfold eld
      rw [if_neg (by omega), Nat.add_sub_cancel_left]
    have hv := s6 _ _ (s5 _ _ (hc4 _ l el))
    rw [ee] at hv
    refine ⟨_, rfl, l, _, _, _, rfl, rfl, SqL.of hv, (show atI [V.str (num (es.getD i 0)), .str (num (ws.getD (1 + i) 0))] ((0 : Nat) : Int) = some (.str (num (es.getD i 0))) from atI_nat rfl), _, rfl, e_le G, fun H7 s7 => ⟨s6.trans s7, ?_⟩⟩
    have := take_map_succ (fun n : Nat => n) hi
    rw [List.map_id', List.map_id'] at this
    rw [this, nats_app]; rfl
  rintro ys H6 ⟨s6, rfl⟩ ea nea
  rw [ld, List.take_length]
  have s7 := same_new nea (.lst (nats es))
  have k7 := upd_same (H := H6) (a := ea) (o := .lst (nats es))
  generalize upd H6 ea (.lst (nats es)) = H7 at s7 k7 ⊢
  have s47 : Same H4 H7 := s5.trans (s6.trans s7)
  refine ⟨_, rfl, pa, rfl, ⟨_, SqL.of (s47 _ _ k4)⟩, ?_⟩
  have lw2 : (ls.map V.ref).length = ws.length := by rw [List.length_map]; omega
  refine lc_listY (xs := ls.map V.ref) (fun i ys H8 => Same H7 H8 ∧ ys = nats (ws.take i)) ⟨Same.refl _, rfl⟩ (by omega) (fun i ys H8 ⟨_, e⟩ => by rw [e, nats_length, List.length_take]; omega) (fun i ys H8 _ ⟨s8, _⟩ => SqL.of (s8 _ _ (s47 _ _ k4))) ?_ ?_
  · rintro i y ys H8 hy ⟨s8, rfl⟩
    have hi : i < ws.length := by
      have := (List.getElem?_eq_some_iff.mp hy).1
      omega
    obtain ⟨l, el, rfl⟩ : ∃ l, ls[i]? = some l ∧ y = .ref l := by
      rw [List.getElem?_map] at hy
      cases z : ls[i]? with
      | none => rw [z] at hy; cases hy
      | some l => rw [z] at hy; exact ⟨l, rfl, (Option.some.inj hy).symm⟩
    have hv := s8 _ _ (s47 _ _ (hc4 _ l el))
    refine ⟨_, rfl, l, _, _, _, rfl, rfl, SqL.of hv, (show atI [V.str (eld es i), .str (num (ws.getD i 0))] ((1 : Nat) : Int) = some (.str (num (ws.getD i 0))) from atI_nat rfl), _, rfl, w_le G, fun H9 s9 => ⟨s8.trans s9, ?_⟩⟩
    have := take_map_succ (fun n : Nat => n) hi
    rw [List.map_id', List.map_id'] at this
    rw [this, nats_app]; rfl
  rintro ys H8 ⟨s8, rfl⟩ wa nwa
  rw [lw2, List.take_length]
  have s9 := same_new nwa (.lst (nats ws))
  have k9 := upd_same (H := H8) (a := wa) (o := .lst (nats ws))
  generalize upd H8 wa (.lst (nats ws)) = H9 at s9 k9 ⊢
  have ke := s9 _ _ (s8 _ _ k7)
  have sA : Same H H9 := s1.trans (s3.trans (s4.trans (s47.trans (s8.trans s9))))
  refine ⟨_, rfl, _, rfl, fun x dx nx ndx nex => ?_⟩
  have s5' : ∀ b o, H9 b = some o → b ≠ x ∧ b ≠ dx := fun b o z => ⟨ne_of_none z nx, ne_of_none z ndx⟩
  refine ⟨x, dx, ea, wa, es, ws, rfl, upd_same, (by rw [upd_ne (s5' _ _ ke).1, upd_ne (s5' _ _ ke).2]; exact ke), (by rw [upd_ne (s5' _ _ k9).1, upd_ne (s5' _ _ k9).2]; exact k9), G, fun HA kA IA => ⟨rfl, ?_⟩⟩
  have sB : Same H9 HA := fun b o z => kA b o (s5' b o z).1 (by rw [upd_ne (s5' b o z).1, upd_ne (s5' b o z).2]; exact z)
  exact q x HA (sA.trans sB) IA
end
end FT
set_option Elab.async false
set_option maxHeartbeats 4000000
set_option maxRecDepth 20000
namespace FT
open PySem L2 TM TX
abbrev s_law : Stmt := (top 25)
/-- that an instance of C is one of C -/
structure OwnCls (K : PySem.W.Frag) (C : Addr) : Prop where
  ha : PySem.W.findIn K (.ref C) "__class__" = some (some (.builtin "object.__class__"))
  hn : PySem.W.specialIn K (.builtin "object.__class__") "__get__" = some (some (.builtin "getset_descriptor.__get__"))
  htk : PySem.W.takesIn K (.builtin "object.__class__") = some true
  hm : PySem.W.mroIn K C (.type "object") = some true
  kk : PySem.W.kitOne K (.ref C) (.ref C) = some true
/-- one word more -/
theorem due_more (es ws : List Nat) (i : Nat) : textTo es ws (i + 1) ++ sep ++ num (es.getD i 0) ++ col ++ num (ws.getD (i + 1) 0) = textTo es ws (i + 1 + 1) := by
  rw [textTo_succ es ws (show 0 < i + 1 from Nat.succ_pos i)]
  unfold word eld
  rw [if_neg (by omega), Nat.add_sub_cancel]
  simp only [Str.append_assoc]
theorem deq_each {K : PySem.W.Frag} {H : Hp} {n : Nat} (xs : List Nat) : ∀ (i : Nat) x y, (nats xs)[i]? = some x → (nats xs)[i]? = some y → DEq K H n x y true := by
  intro i x y e1 e2
  rw [e1] at e2
  have e3 := Option.some.inj e2
  subst e3
  have hi : i < xs.length := by
    have := (List.getElem?_eq_some_iff.mp e1).1
    rwa [nats_length] at this
  rw [nats_get hi] at e1
  have e4 := Option.some.inj e1
  subst e4
  have := DEq.flat (K := K) (H := H) (n := n) (x := .int (xs.getD i 0 : Nat)) (y := .int (xs.getD i 0 : Nat)) rfl rfl
  rwa [show eqV (.int (xs.getD i 0 : Nat)) (.int (xs.getD i 0 : Nat)) = true from decide_eq_true rfl] at this
theorem all_t : ∀ n : Nat, ((List.range n).all fun _ => true) = true := fun n => List.all_eq_true.mpr fun _ _ => rfl
section
variable {P : Program} {w : World} {K : PySem.W.Frag} {mg : Str → Option Value} {base : Heap} {f C : Addr} {fd : FuncData}
theorem sc_law : FnScope ["script", "plot", "due", "k", "found", "back"] ["script"] (defScope s_law) := ⟨rfl, rfl, rfl, by decide +kernel, rfl, by decide +kernel, by decide +kernel⟩
theorem ok_law (F : Fun K "law" "law" s_law f fd) (N : Nm mg) (N7 : Nm7 mg) (O : OwnCls K C) (cl : Cls K C) (hm_Tree : mg "Tree" = some (.ref C)) (SS : PySem.W.kitOne K (.type "str") (.type "str") = some true) (D_law_tree : DefOk P w K mg base CX0 "_law_tree" 4 ["script", "most"] (spTree K)) (DTree : ClsOk P w K mg base CX0 "Tree" C 2 ["self", "elders", "worths"] (spInit C))
    (Melders : MethOk P w K mg base CX0 C "elders" 1 ["self"] (spGetE C)) (Mworths : MethOk P w K mg base CX0 C "worths" 1 ["self"] (spGetW C)) (Dshown : DefOk P w K mg base CX0 "shown" 2 ["tree"] (spShown C)) (Dread : DefOk P w K mg base CX0 "read" 4 ["text"] (spRead C)) : FnOk P w K mg base CX0 6 f fd ["script"] (spLaw K) := by
  refine F.ok sc_law (fun vs H Q E h => ?_) (fun cdv A outer s H vs Q E hr h => ?_)
  · obtain ⟨a, ns, rfl, _⟩ := h
    rfl
  obtain ⟨a, ns, rfl, hS, h63, q⟩ := h
  have hnd := sc_law.nd
  have hpo := @PassesOwn.never
  have mn_range := N.range
  have mn_len := N.len
  have mn_list := N.list
  have mn_str := N7.str
  have mn_isinstance := N.isinstance
  have hu : (A.deeper (PyProof.Rows.envOfC "law" (defScope s_law) s.heap.objs.size f cdv)).units + 5 < cLine := by have := hr.units; omega
  refine ⟨_, (pss_cons (ps_set (i := 1) hnd rfl (by first | exact Or.inl rfl | exact Or.inr rfl) (pe_def D_law_tree hr pass0 (pa_cons (pv 0) (pa_cons pe_int pa_nil))))
    (pss_cons (ps_set (i := 2) hnd rfl (by first | exact Or.inl rfl | exact Or.inr rfl) (pe_op op_add_str pe_str (pe_callTy call_str_int (by rfl) mn_str bo_str (pa_cons (pe_ix ix_list (pe_ix ix_tup (pv 1) pe_int (fun _ _ => rfl)) pe_int (fun _ _ => rfl)) pa_nil))))
    (pss_cons (ps_for hpo rfl (pi_range1 (by rfl) mn_range (pa_cons (pe_callB call_len_seq (by rfl) mn_len PySem.boot_len (pa_cons (pe_ix ix_tup (pv 1) pe_int (fun _ _ => rfl)) pa_nil)) pa_nil)) (pg_name (i := 3) hnd rfl (by first | exact Or.inl rfl | exact Or.inr rfl)) (pss_one (ps_set (i := 2) hnd rfl (by first | exact Or.inl rfl | exact Or.inr rfl) (pe_op op_add_str (pe_op op_add_str (pe_op op_add_str (pe_op op_add_str (pv 2) pe_str) (pe_callTy call_str_int (by rfl) mn_str bo_str (pa_cons (pe_ix ix_list (pe_ix ix_tup (pv 1) pe_int (fun _ _ => rfl)) (pv 3) (fun _ _ => rfl)) pa_nil))) pe_str) (pe_callTy call_str_int (by rfl) mn_str bo_str (pa_cons (pe_ix ix_list (pe_ix ix_tup (pv 1) pe_int (fun _ _ => rfl)) (pe_op op_add (pv 3) pe_int) (fun _ _ => rfl)) pa_nil))))))
    (pss_cons (ps_set (i := 4) hnd rfl (by first | exact Or.inl rfl | exact Or.inr rfl) (pe_def Dshown hr pass0 (pa_cons (pe_cls DTree hr pass0 (pa_cons (pe_callTy call_list_of (by rfl) mn_list bo_list (pa_cons (pe_ix ix_tup (pv 1) pe_int (fun _ _ => rfl)) pa_nil)) (pa_cons (pe_callTy call_list_of (by rfl) mn_list bo_list (pa_cons (pe_ix ix_tup (pv 1) pe_int (fun _ _ => rfl)) pa_nil)) pa_nil))) pa_nil)))
    (pss_cons (ps_if (PW.pt (pw_or (pt_not (pt_val (pe_callB call_isi (by rfl) mn_isinstance bo_isinstance (pa_cons (pv 4) (pa_cons (pe_bty mn_str bo_str) pa_nil))))) (pw_or1 (pt_cmpR op_ne (pv 4) (pv 2) (nomark _))))) (pss_one (ps_ret pe_bl)) pss_nil)
    (pss_cons (ps_set (i := 5) hnd rfl (by first | exact Or.inl rfl | exact Or.inr rfl) (pe_def Dread hr pass0 (pa_cons (pv 2) pa_nil)))
    (pss_one (ps_ret (pe_and (pe_callB call_isi (by rfl) mn_isinstance bo_isinstance (pa_cons (pv 5) (pa_cons (pe_cl hm_Tree) pa_nil))) (pe_and (pe_cmpR (op_eqL hu) (pe_me0 (pv 5) Melders hr pass0) (pe_ix ix_tup (pv 1) pe_int (fun _ _ => rfl)) (nomark _)) (pe_one (pe_cmpR (op_eqL hu) (pe_me0 (pv 5) Mworths hr pass0) (pe_ix ix_tup (pv 1) pe_int (fun _ _ => rfl)) (nomark _))))))))))))), ?_⟩
  -- plot
  refine ⟨_, rfl, a, ns, 14, rfl, hS, by decide, by decide, fun r e u es ws H1 fr fe fu neu s1 hr1 he1 hu1 G _ => ?_⟩
  have hlen := G.len
  have hmost := G.most
  -- the first word
  have w0 : atI (nats ws) ((0 : Nat) : Int) = some (.int (ws.getD 0 0 : Nat)) := nats_at (i := 0) (by omega)
  have l0 := (num_len (w_le G (k := 0))).2
  refine ⟨_, rfl, r, _, _, _, rfl, rfl, SqT.of hr1, rfl, u, _, _, _, rfl, rfl, SqL.of hu1, w0, _, rfl, small_log (w_le G), _, _, rfl, rfl, small (by show 2 + (num (ws.getD 0 0)).length ≤ _; omega), ?_⟩
  have e0 : Str.ofString "-:" ++ Str.ofString (toString ((ws.getD 0 0 : Nat) : Int)) = textTo es ws 1 := by
    rw [textTo_one]
    show Str.ofString "-:" ++ num (ws.getD 0 0) = dash ++ col ++ num (ws.getD 0 0)
    rw [show Str.ofString "-:" = dash ++ col by decide +kernel]
  rw [show (V.str (Str.ofString "-:" ++ Str.ofString (toString ((ws.getD 0 0 : Nat) : Int)))) = .str (textTo es ws 1) from congrArg V.str e0]
  refine ⟨_, rfl, r, _, _, _, rfl, rfl, SqT.of hr1, rfl, e, _, rfl, .inl (SqL.of he1), ?_⟩
  refine ⟨es.length, (by rw [nats_length]), by omega, by omega, for_range (n := es.length) (fun i σ H2 => ∃ kv, σ = [some (.ref a), some (.ref r), some (.str (textTo es ws (i + 1))), kv, none, none] ∧ H2 = H1) ⟨none, rfl, rfl⟩ ?_ ?_⟩
  · rintro i σ H2 hi ⟨kv, rfl, rfl⟩
    have ei : atI (nats es) ((i : Nat) : Int) = some (.int (es.getD i 0 : Nat)) := nats_at hi
    have wi : atI (nats ws) ((i + 1 : Nat) : Int) = some (.int (ws.getD (i + 1) 0 : Nat)) := nats_at (by omega)
    have t1 := textTo_len G i
    have t2 := (num_len (e_le G (k := i))).2
    have t3 := (num_len (w_le G (k := i + 1))).2
    have e1 : (0 : Int) + (i : Nat) = ((i : Nat) : Int) := by omega
    have e2 : (0 : Int) + (i : Nat) + 1 = ((i + 1 : Nat) : Int) := by omega
    have z1 : (textTo es ws (i + 1) ++ sep).length = (textTo es ws (i + 1)).length + 1 := by rw [Str.length_append]; rfl
    have z2 : (textTo es ws (i + 1) ++ sep ++ num (es.getD i 0)).length = (textTo es ws (i + 1)).length + 1 + (num (es.getD i 0)).length := by rw [Str.length_append, z1]
    have z3 : (textTo es ws (i + 1) ++ sep ++ num (es.getD i 0) ++ col).length = (textTo es ws (i + 1)).length + 1 + (num (es.getD i 0)).length + 1 := by rw [Str.length_append, z2]; rfl
    refine ⟨_, rfl, _, _, rfl, rfl, small (show (textTo es ws (i + 1)).length + 1 ≤ _ by omega), ?_⟩
    refine ⟨_, rfl, r, _, _, _, rfl, rfl, SqT.of hr1, rfl, _, rfl, e, _, _, _, rfl, rfl, SqL.of he1, (by rw [e1]; exact ei), _, rfl, small_log (e_le G), _, _, rfl, rfl, small (show (textTo es ws (i + 1) ++ sep).length + (num (es.getD i 0)).length ≤ _ by omega), ?_⟩
    refine ⟨_, _, rfl, rfl, small (show (textTo es ws (i + 1) ++ sep ++ num (es.getD i 0)).length + 1 ≤ _ by omega), ?_⟩
    refine ⟨_, rfl, r, _, _, _, rfl, rfl, SqT.of hr1, rfl, _, rfl, _, _, rfl, rfl, u, _, _, _, rfl, rfl, SqL.of hu1, (by rw [e2]; exact wi), _, rfl, small_log (w_le G), _, _, rfl, rfl, small (show (textTo es ws (i + 1) ++ sep ++ num (es.getD i 0) ++ col).length + (num (ws.getD (i + 1) 0)).length ≤ _ by omega), ?_⟩
    refine ⟨some (.int (0 + (i : Int))), ?_, rfl⟩
    rw [← due_more]
    rfl
  · rintro σ H2 ⟨kv, rfl, rfl⟩
    rw [textTo_all]
    refine ⟨_, rfl, r, _, _, _, rfl, rfl, SqT.of hr1, rfl, e, _, rfl, .inl (SqL.of he1), fun l1 n1 => ?_⟩
    have z1 := same_new n1 (.lst (nats es))
    refine ⟨_, rfl, r, _, _, _, rfl, rfl, SqT.of (z1 _ _ hr1), rfl, u, _, rfl, .inl (SqL.of (z1 _ _ hu1)), fun l2 n2 => ?_⟩
    have z2 := same_new n2 (.lst (nats ws))
    have hl1 := z2 _ _ (upd_same (H := H2) (a := l1) (o := .lst (nats es)))
    have hl2 := upd_same (H := upd H2 l1 (.lst (nats es))) (a := l2) (o := .lst (nats ws))
    have z12 := z1.trans z2
    generalize upd (upd H2 l1 (.lst (nats es))) l2 (.lst (nats ws)) = H3 at hl1 hl2 z12 ⊢
    refine fun x dx nx ndx nex => ?_
    have s5 : ∀ b o, H3 b = some o → b ≠ x ∧ b ≠ dx := fun b o z => ⟨ne_of_none z nx, ne_of_none z ndx⟩
    refine ⟨x, dx, l1, l2, es, ws, rfl, upd_same, (by rw [upd_ne (s5 _ _ hl1).1, upd_ne (s5 _ _ hl1).2]; exact hl1), (by rw [upd_ne (s5 _ _ hl2).1, upd_ne (s5 _ _ hl2).2]; exact hl2), G, fun H5 k5 I5 => ⟨rfl, ?_⟩⟩
    have s35 : Same H3 H5 := fun b o z => k5 b o (s5 b o z).1 (by rw [upd_ne (s5 b o z).1, upd_ne (s5 b o z).2]; exact z)
    have s25 := z12.trans s35
    refine ⟨x, es, ws, rfl, I5, G, fun H6 s6 => ?_⟩
    have s26 := s25.trans s6
    refine ⟨_, rfl, _, _, _, _, true, rfl, rfl, TyOf.str _, SS, _, rfl, ?_⟩
    refine iteF ?_
    refine ⟨_, rfl, _, rfl, rfl, _, rfl, ?_⟩
    refine iteNS rfl ?_
    refine ⟨_, rfl, es, ws, rfl, G, fun b H7 s7 Ib => ?_⟩
    have s27 := s26.trans s7
    obtain ⟨db, pe, pw, hb, hpe, hpw⟩ := id Ib
    refine ⟨_, rfl, _, _, _, _, true, rfl, rfl, TyOf.ins hb cl O.ha O.hn O.htk O.hm, O.kk, _, rfl, ?_⟩
    refine ⟨_, rfl, b, db, _, rfl, hb, row_no _ _ (by decide +kernel) (by decide +kernel), b, es, ws, rfl, Ib, fun l3 n3 => ?_⟩
    have s3 := same_new n3 (.lst (nats es))
    have s2A := s27.trans s3
    refine ⟨_, rfl, r, _, _, _, rfl, rfl, SqT.of (s2A _ _ hr1), rfl, ?_⟩
    refine ⟨l3, e, _, _, rfl, rfl, SqL.of upd_same, SqL.of (s2A _ _ he1), ?_⟩
    refine .inr ⟨rfl, fun _ => true, deq_each _, ?_⟩
    rw [all_t]
    refine ⟨_, rfl, ?_⟩
    have hb2 := s3 _ _ hb
    refine ⟨_, rfl, b, db, _, rfl, hb2, row_no _ _ (by decide +kernel) (by decide +kernel), b, es, ws, rfl, Ib.same s3, fun l4 n4 => ?_⟩
    have s4 := same_new n4 (.lst (nats ws))
    have s2B := s2A.trans s4
    refine ⟨_, rfl, r, _, _, _, rfl, rfl, SqT.of (s2B _ _ hr1), rfl, ?_⟩
    refine ⟨l4, u, _, _, rfl, rfl, SqL.of upd_same, SqL.of (s2B _ _ hu1), ?_⟩
    refine .inr ⟨rfl, fun _ => true, deq_each _, ?_⟩
    rw [all_t]
    exact q _
end
end FT
set_option Elab.async false
set_option maxHeartbeats 4000000
set_option maxRecDepth 20000
namespace FT
open PySem L2 TM
theorem all_mk {l : PySem.W.OpenLaw} {w : World} {K : PySem.W.Frag} {h : Heap} {mg : Str → Option Value} {fa C : Addr} {tkf : Tok} {tk0 : Tok} {tk1 : Tok} {tk2 : Tok}
    {f1 : Addr} {od1 an1 : Option Addr} {sl1 : Array (Option Value)} {oc1 kV1 dc1 pm1 cd1 ct1 : Value}
    {f2 : Addr} {od2 an2 : Option Addr} {sl2 : Array (Option Value)} {oc2 kV2 dc2 pm2 cd2 ct2 : Value}
    {f3 : Addr} {od3 an3 : Option Addr} {sl3 : Array (Option Value)} {oc3 kV3 dc3 pm3 cd3 ct3 : Value}
    {f4 : Addr} {od4 an4 : Option Addr} {sl4 : Array (Option Value)} {oc4 kV4 dc4 pm4 cd4 ct4 : Value}
    {f5 : Addr} {od5 an5 : Option Addr} {sl5 : Array (Option Value)} {oc5 kV5 dc5 pm5 cd5 ct5 : Value}
    {f6 : Addr} {od6 an6 : Option Addr} {sl6 : Array (Option Value)} {oc6 kV6 dc6 pm6 cd6 ct6 : Value}
    {f7 : Addr} {od7 an7 : Option Addr} {sl7 : Array (Option Value)} {oc7 kV7 dc7 pm7 cd7 ct7 : Value}
    {f8 : Addr} {od8 an8 : Option Addr} {sl8 : Array (Option Value)} {oc8 kV8 dc8 pm8 cd8 ct8 : Value}
    {f9 : Addr} {od9 an9 : Option Addr} {sl9 : Array (Option Value)} {oc9 kV9 dc9 pm9 cd9 ct9 : Value}
    {f10 : Addr} {od10 an10 : Option Addr} {sl10 : Array (Option Value)} {oc10 kV10 dc10 pm10 cd10 ct10 : Value}
    {f11 : Addr} {od11 an11 : Option Addr} {sl11 : Array (Option Value)} {oc11 kV11 dc11 pm11 cd11 ct11 : Value}
    {f12 : Addr} {od12 an12 : Option Addr} {sl12 : Array (Option Value)} {oc12 kV12 dc12 pm12 cd12 ct12 : Value}
    {f13 : Addr} {od13 an13 : Option Addr} {sl13 : Array (Option Value)} {oc13 kV13 dc13 pm13 cd13 ct13 : Value}
    {f14 : Addr} {od14 an14 : Option Addr} {sl14 : Array (Option Value)} {oc14 kV14 dc14 pm14 cd14 ct14 : Value}
    {f15 : Addr} {od15 an15 : Option Addr} {sl15 : Array (Option Value)} {oc15 kV15 dc15 pm15 cd15 ct15 : Value}
    {f16 : Addr} {od16 an16 : Option Addr} {sl16 : Array (Option Value)} {oc16 kV16 dc16 pm16 cd16 ct16 : Value}
    (X : K.In h) (G : h.Ns mainGlobals mg) (hfa : mg "law" = some (.ref fa))
    (aC : PySem.W.nsIn K mainGlobals "Tree" = some (some (.ref C)))
    (a1 : PySem.W.nsIn K mainGlobals "check_lengths" = some (some (.ref f1)))
    (l1 : K.lookup f1 = some ⟨oc1, od1, .func (PySem.W.fnOf "check_lengths" "check_lengths" (defArgs s_lengths) (defBody s_lengths) (defScope s_lengths) .none kV1 dc1 pm1 an1 cd1 ct1), sl1⟩)
    (c1 : PySem.W.codeIn K cd1 "check_lengths" = true)
    (k1 : PySem.W.keepIn K (.ref f1) = true)
    (a2 : PySem.W.nsIn K mainGlobals "check_elders" = some (some (.ref f2)))
    (l2 : K.lookup f2 = some ⟨oc2, od2, .func (PySem.W.fnOf "check_elders" "check_elders" (defArgs s_chkE) (defBody s_chkE) (defScope s_chkE) .none kV2 dc2 pm2 an2 cd2 ct2), sl2⟩)
    (c2 : PySem.W.codeIn K cd2 "check_elders" = true)
    (k2 : PySem.W.keepIn K (.ref f2) = true)
    (a3 : PySem.W.nsIn K mainGlobals "check_worths" = some (some (.ref f3)))
    (l3 : K.lookup f3 = some ⟨oc3, od3, .func (PySem.W.fnOf "check_worths" "check_worths" (defArgs s_chkW) (defBody s_chkW) (defScope s_chkW) .none kV3 dc3 pm3 an3 cd3 ct3), sl3⟩)
    (c3 : PySem.W.codeIn K cd3 "check_worths" = true)
    (k3 : PySem.W.keepIn K (.ref f3) = true)
    (a4 : PySem.W.nsIn K mainGlobals "shown" = some (some (.ref f4)))
    (l4 : K.lookup f4 = some ⟨oc4, od4, .func (PySem.W.fnOf "shown" "shown" (defArgs s_shown) (defBody s_shown) (defScope s_shown) .none kV4 dc4 pm4 an4 cd4 ct4), sl4⟩)
    (c4 : PySem.W.codeIn K cd4 "shown" = true)
    (k4 : PySem.W.keepIn K (.ref f4) = true)
    (a5 : PySem.W.nsIn K mainGlobals "is_number" = some (some (.ref f5)))
    (l5 : K.lookup f5 = some ⟨oc5, od5, .func (PySem.W.fnOf "is_number" "is_number" (defArgs s_isnum) (defBody s_isnum) (defScope s_isnum) .none kV5 dc5 pm5 an5 cd5 ct5), sl5⟩)
    (c5 : PySem.W.codeIn K cd5 "is_number" = true)
    (k5 : PySem.W.keepIn K (.ref f5) = true)
    (a6 : PySem.W.nsIn K mainGlobals "number_of" = some (some (.ref f6)))
    (l6 : K.lookup f6 = some ⟨oc6, od6, .func (PySem.W.fnOf "number_of" "number_of" (defArgs s_numof) (defBody s_numof) (defScope s_numof) .none kV6 dc6 pm6 an6 cd6 ct6), sl6⟩)
    (c6 : PySem.W.codeIn K cd6 "number_of" = true)
    (k6 : PySem.W.keepIn K (.ref f6) = true)
    (a7 : PySem.W.nsIn K mainGlobals "halves_of" = some (some (.ref f7)))
    (l7 : K.lookup f7 = some ⟨oc7, od7, .func (PySem.W.fnOf "halves_of" "halves_of" (defArgs s_halves) (defBody s_halves) (defScope s_halves) .none kV7 dc7 pm7 an7 cd7 ct7), sl7⟩)
    (c7 : PySem.W.codeIn K cd7 "halves_of" = true)
    (k7 : PySem.W.keepIn K (.ref f7) = true)
    (a8 : PySem.W.nsIn K mainGlobals "read" = some (some (.ref f8)))
    (l8 : K.lookup f8 = some ⟨oc8, od8, .func (PySem.W.fnOf "read" "read" (defArgs s_read) (defBody s_read) (defScope s_read) .none kV8 dc8 pm8 an8 cd8 ct8), sl8⟩)
    (c8 : PySem.W.codeIn K cd8 "read" = true)
    (k8 : PySem.W.keepIn K (.ref f8) = true)
    (a9 : PySem.W.nsIn K mainGlobals "_law_cell_at" = some (some (.ref f9)))
    (l9 : K.lookup f9 = some ⟨oc9, od9, .func (PySem.W.fnOf "_law_cell_at" "_law_cell_at" (defArgs s_cell) (defBody s_cell) (defScope s_cell) .none kV9 dc9 pm9 an9 cd9 ct9), sl9⟩)
    (c9 : PySem.W.codeIn K cd9 "_law_cell_at" = true)
    (k9 : PySem.W.keepIn K (.ref f9) = true)
    (a10 : PySem.W.nsIn K mainGlobals "_law_draw" = some (some (.ref f10)))
    (l10 : K.lookup f10 = some ⟨oc10, od10, .func (PySem.W.fnOf "_law_draw" "_law_draw" (defArgs s_draw) (defBody s_draw) (defScope s_draw) .none kV10 dc10 pm10 an10 cd10 ct10), sl10⟩)
    (c10 : PySem.W.codeIn K cd10 "_law_draw" = true)
    (k10 : PySem.W.keepIn K (.ref f10) = true)
    (a11 : PySem.W.nsIn K mainGlobals "_law_elders" = some (some (.ref f11)))
    (l11 : K.lookup f11 = some ⟨oc11, od11, .func (PySem.W.fnOf "_law_elders" "_law_elders" (defArgs s_elders) (defBody s_elders) (defScope s_elders) .none kV11 dc11 pm11 an11 cd11 ct11), sl11⟩)
    (c11 : PySem.W.codeIn K cd11 "_law_elders" = true)
    (k11 : PySem.W.keepIn K (.ref f11) = true)
    (a12 : PySem.W.nsIn K mainGlobals "_law_tree" = some (some (.ref f12)))
    (l12 : K.lookup f12 = some ⟨oc12, od12, .func (PySem.W.fnOf "_law_tree" "_law_tree" (defArgs s_tree) (defBody s_tree) (defScope s_tree) .none kV12 dc12 pm12 an12 cd12 ct12), sl12⟩)
    (c12 : PySem.W.codeIn K cd12 "_law_tree" = true)
    (k12 : PySem.W.keepIn K (.ref f12) = true)
    (a13 : PySem.W.nsIn K mainGlobals "law" = some (some (.ref f13)))
    (l13 : K.lookup f13 = some ⟨oc13, od13, .func (PySem.W.fnOf "law" "law" (defArgs s_law) (defBody s_law) (defScope s_law) .none kV13 dc13 pm13 an13 cd13 ct13), sl13⟩)
    (c13 : PySem.W.codeIn K cd13 "law" = true)
    (k13 : PySem.W.keepIn K (.ref f13) = true)
    (a14 : PySem.W.findIn K (.ref C) "__init__" = some (some (.ref f14)))
    (i14 : PySem.W.isFn K (.ref f14) = true)
    (l14 : K.lookup f14 = some ⟨oc14, od14, .func (PySem.W.fnOf "__init__" "Tree.__init__" (defArgs s_init) (defBody s_init) (defScope s_init) .none kV14 dc14 pm14 an14 cd14 ct14), sl14⟩)
    (c14 : PySem.W.codeIn K cd14 "Tree.__init__" = true)
    (k14 : PySem.W.keepIn K (.ref f14) = true)
    (a15 : PySem.W.findIn K (.ref C) "elders" = some (some (.ref f15)))
    (i15 : PySem.W.isFn K (.ref f15) = true)
    (l15 : K.lookup f15 = some ⟨oc15, od15, .func (PySem.W.fnOf "elders" "Tree.elders" (defArgs s_getE) (defBody s_getE) (defScope s_getE) .none kV15 dc15 pm15 an15 cd15 ct15), sl15⟩)
    (c15 : PySem.W.codeIn K cd15 "Tree.elders" = true)
    (k15 : PySem.W.keepIn K (.ref f15) = true)
    (a16 : PySem.W.findIn K (.ref C) "worths" = some (some (.ref f16)))
    (i16 : PySem.W.isFn K (.ref f16) = true)
    (l16 : K.lookup f16 = some ⟨oc16, od16, .func (PySem.W.fnOf "worths" "Tree.worths" (defArgs s_getW) (defBody s_getW) (defScope s_getW) .none kV16 dc16 pm16 an16 cd16 ct16), sl16⟩)
    (c16 : PySem.W.codeIn K cd16 "Tree.worths" = true)
    (k16 : PySem.W.keepIn K (.ref f16) = true)
    (pg : PySem.W.plainGet K C Str.empty = true)
    (hd : PySem.W.hasDictIn K C = true)
    (po : PySem.W.plainOver K C = true)
    (sa : PySem.W.findIn K (.ref C) "__setattr__" = some (some (.builtin "object.__setattr__")))
    (mk : PySem.W.makesIn K C = true)
    (kc : PySem.W.keepIn K (.ref C) = true)
    (na0 : PySem.W.findIn K (.ref C) "elder_row" = some none)
    (na1 : PySem.W.findIn K (.ref C) "worth_row" = some none)
    (co0 : PySem.W.nsIn K mainGlobals "MOST_THINGS" = some (some (.int 14 tk0)))
    (co1 : PySem.W.nsIn K mainGlobals "MOST_WORTH" = some (some (.int 1000 tk1)))
    (co2 : PySem.W.nsIn K mainGlobals "MOST_FIGURES" = some (some (.int 4 tk2)))
    (z0 : PySem.W.nsIn K mainGlobals "len" = some none)
    (z1 : PySem.W.nsIn K mainGlobals "range" = some none)
    (z2 : PySem.W.nsIn K mainGlobals "min" = some none)
    (z3 : PySem.W.nsIn K mainGlobals "max" = some none)
    (z4 : PySem.W.nsIn K mainGlobals "list" = some none)
    (z5 : PySem.W.nsIn K mainGlobals "tuple" = some none)
    (z6 : PySem.W.nsIn K mainGlobals "sum" = some none)
    (z7 : PySem.W.nsIn K mainGlobals "isinstance" = some none)
    (z8 : PySem.W.nsIn K mainGlobals "int" = some none)
    (z9 : PySem.W.nsIn K mainGlobals "bool" = some none)
    (z10 : PySem.W.nsIn K mainGlobals "enumerate" = some none)
    (z11 : PySem.W.nsIn K mainGlobals "str" = some none)
    (z12 : PySem.W.nsIn K mainGlobals "zip" = some none)
    (z13 : PySem.W.nsIn K mainGlobals "all" = some none)
    (ki0 : PySem.W.kitOne K (.type "str") (.type "str") = some true)
    (ki1 : PySem.W.kitOne K (.ref C) (.ref C) = some true)
    (nF : PySem.W.nsIn K mainGlobals "FIGURES" = some (some (.str "0123456789" tkf)))
    (oa : PySem.W.findIn K (.ref C) "__class__" = some (some (.builtin "object.__class__")))
    (on : PySem.W.specialIn K (.builtin "object.__class__") "__get__" = some (some (.builtin "getset_descriptor.__get__")))
    (ot : PySem.W.takesIn K (.builtin "object.__class__") = some true)
    (om : PySem.W.mroIn K C (.type "object") = some true) :
    ∃ fd : FuncData, (∀ (s : Shared) (v : Value), BindsTo s fd ⟨[v], []⟩ [("script", v)]) ∧ ∀ base : Heap, K.In base → base.Ns mainGlobals mg → FnOk l.prog w K mg base CX0 6 fa fd ["script"] (spLaw K) := by
  have e := hfa.symm.trans (PySem.W.mg_of X G a13)
  cases e
  have F1 := fun_mk (st := s_lengths) l1 c1 k1
  have b1 := F1.binds (ps := ["elders", "worths"]) fun _ _ _ _ _ _ us hl => match us, hl with | [_, _], _ => rfl
  have F2 := fun_mk (st := s_chkE) l2 c2 k2
  have b2 := F2.binds (ps := ["elders"]) fun _ _ _ _ _ _ us hl => match us, hl with | [_], _ => rfl
  have F3 := fun_mk (st := s_chkW) l3 c3 k3
  have b3 := F3.binds (ps := ["worths"]) fun _ _ _ _ _ _ us hl => match us, hl with | [_], _ => rfl
  have F4 := fun_mk (st := s_shown) l4 c4 k4
  have b4 := F4.binds (ps := ["tree"]) fun _ _ _ _ _ _ us hl => match us, hl with | [_], _ => rfl
  have F5 := fun_mk (st := s_isnum) l5 c5 k5
  have b5 := F5.binds (ps := ["part"]) fun _ _ _ _ _ _ us hl => match us, hl with | [_], _ => rfl
  have F6 := fun_mk (st := s_numof) l6 c6 k6
  have b6 := F6.binds (ps := ["part"]) fun _ _ _ _ _ _ us hl => match us, hl with | [_], _ => rfl
  have F7 := fun_mk (st := s_halves) l7 c7 k7
  have b7 := F7.binds (ps := ["part"]) fun _ _ _ _ _ _ us hl => match us, hl with | [_], _ => rfl
  have F8 := fun_mk (st := s_read) l8 c8 k8
  have b8 := F8.binds (ps := ["text"]) fun _ _ _ _ _ _ us hl => match us, hl with | [_], _ => rfl
  have F9 := fun_mk (st := s_cell) l9 c9 k9
  have b9 := F9.binds (ps := ["script", "k"]) fun _ _ _ _ _ _ us hl => match us, hl with | [_, _], _ => rfl
  have F10 := fun_mk (st := s_draw) l10 c10 k10
  have b10 := F10.binds (ps := ["script", "k"]) fun _ _ _ _ _ _ us hl => match us, hl with | [_, _], _ => rfl
  have F11 := fun_mk (st := s_elders) l11 c11 k11
  have b11 := F11.binds (ps := ["script", "things"]) fun _ _ _ _ _ _ us hl => match us, hl with | [_, _], _ => rfl
  have F12 := fun_mk (st := s_tree) l12 c12 k12
  have b12 := F12.binds (ps := ["script", "most"]) fun _ _ _ _ _ _ us hl => match us, hl with | [_, _], _ => rfl
  have F13 := fun_mk (st := s_law) l13 c13 k13
  have b13 := F13.binds (ps := ["script"]) fun _ _ _ _ _ _ us hl => match us, hl with | [_], _ => rfl
  have F14 := fun_mk (st := s_init) l14 c14 k14
  have b14 := F14.binds (ps := ["self", "elders", "worths"]) fun _ _ _ _ _ _ us hl => match us, hl with | [_, _, _], _ => rfl
  have F15 := fun_mk (st := s_getE) l15 c15 k15
  have b15 := F15.binds (ps := ["self"]) fun _ _ _ _ _ _ us hl => match us, hl with | [_], _ => rfl
  have F16 := fun_mk (st := s_getW) l16 c16 k16
  have b16 := F16.binds (ps := ["self"]) fun _ _ _ _ _ _ us hl => match us, hl with | [_], _ => rfl
  have N : Nm mg := ⟨PySem.W.mg_none_of X G z0, PySem.W.mg_none_of X G z1, PySem.W.mg_none_of X G z2, PySem.W.mg_none_of X G z3, PySem.W.mg_none_of X G z4, PySem.W.mg_none_of X G z5, PySem.W.mg_none_of X G z6, PySem.W.mg_none_of X G z7, PySem.W.mg_none_of X G z8, PySem.W.mg_none_of X G z9, PySem.W.mg_none_of X G z10⟩
  have N7 : Nm7 mg := ⟨PySem.W.mg_none_of X G z11, PySem.W.mg_none_of X G z12, PySem.W.mg_none_of X G z13, ⟨_, PySem.W.mg_of X G nF⟩, ⟨_, PySem.W.mg_of X G co2⟩⟩
  have T : Txt K mg C := ⟨⟨pg, hd, po, sa⟩, na0, na1, ⟨_, PySem.W.mg_of X G co0⟩, ⟨_, PySem.W.mg_of X G co1⟩⟩
  have O : OwnCls K C := ⟨oa, on, ot, om, ki1⟩
  refine ⟨PySem.W.fnOf "law" "law" (defArgs s_law) (defBody s_law) (defScope s_law) .none kV13 dc13 pm13 an13 cd13 ct13, fun s v => .of_eq rfl, fun base _ _ => ?_⟩
  have Dcheck_lengths : DefOk l.prog w K mg base CX0 "check_lengths" 1 _ (spLengths K) := ⟨_, _, ok_lengths F1 N T, b1, k1, PySem.W.mg_of X G a1⟩
  have Dcheck_elders : DefOk l.prog w K mg base CX0 "check_elders" 1 _ spChkE := ⟨_, _, ok_chkE F2 N, b2, k2, PySem.W.mg_of X G a2⟩
  have Dcheck_worths : DefOk l.prog w K mg base CX0 "check_worths" 1 _ (spChkW K) := ⟨_, _, ok_chkW F3 T, b3, k3, PySem.W.mg_of X G a3⟩
  have DTree : ClsOk l.prog w K mg base CX0 "Tree" C 2 _ (spInit C) := ⟨_, _, ok_init F14 N T Dcheck_lengths Dcheck_elders Dcheck_worths, b14, ⟨mk, a14, i14, kc⟩, PySem.W.mg_of X G aC⟩
  have Melders : MethOk l.prog w K mg base CX0 C "elders" 1 _ (spGetE C) := ⟨T.cl, _, _, ok_getE F15 N T, b15, ⟨a15, i15, k15⟩⟩
  have Mworths : MethOk l.prog w K mg base CX0 C "worths" 1 _ (spGetW C) := ⟨T.cl, _, _, ok_getW F16 N T, b16, ⟨a16, i16, k16⟩⟩
  have Dshown : DefOk l.prog w K mg base CX0 "shown" 2 _ (spShown C) := ⟨_, _, ok_shown F4 N7 Melders Mworths, b4, k4, PySem.W.mg_of X G a4⟩
  have Dis_number : DefOk l.prog w K mg base CX0 "is_number" 1 _ spIsNum := ⟨_, _, ok_isnum F5 N N7, b5, k5, PySem.W.mg_of X G a5⟩
  have Dnumber_of : DefOk l.prog w K mg base CX0 "number_of" 2 _ spNumOf := ⟨_, _, ok_numof F6 N Dis_number, b6, k6, PySem.W.mg_of X G a6⟩
  have Dhalves_of : DefOk l.prog w K mg base CX0 "halves_of" 1 _ spHalves := ⟨_, _, ok_halves F7 N, b7, k7, PySem.W.mg_of X G a7⟩
  have Dread : DefOk l.prog w K mg base CX0 "read" 4 _ (spRead C) := ⟨_, _, ok_read F8 N Dhalves_of Dnumber_of DTree, b8, k8, PySem.W.mg_of X G a8⟩
  have D_law_cell_at : DefOk l.prog w K mg base CX0 "_law_cell_at" 1 _ (spCell K) := ⟨_, _, ok_cell F9 N, b9, k9, PySem.W.mg_of X G a9⟩
  have D_law_draw : DefOk l.prog w K mg base CX0 "_law_draw" 2 _ (spDraw K) := ⟨_, _, ok_draw F10 D_law_cell_at, b10, k10, PySem.W.mg_of X G a10⟩
  have D_law_elders : DefOk l.prog w K mg base CX0 "_law_elders" 3 _ (spElders K) := ⟨_, _, ok_elders F11 N D_law_draw, b11, k11, PySem.W.mg_of X G a11⟩
  have D_law_tree : DefOk l.prog w K mg base CX0 "_law_tree" 4 _ (spTree K) := ⟨_, _, ok_tree F12 N D_law_draw D_law_elders, b12, k12, PySem.W.mg_of X G a12⟩
  exact ok_law F13 N N7 O T.cl (PySem.W.mg_of X G aC) ki0 D_law_tree DTree Melders Mworths Dshown Dread
theorem walk {l : PySem.W.OpenLaw} {q : Program} {loose : List Str} {XP : (Str → Option Value) → Heap → Prop} {YP : World → Heap → Prop} {d : DefRec} {K : Params → PySem.W.Frag} (hn : l.most = some 63) (hdf : d.params.defaults = [])
    (hY : ∀ (w : World) (h : Heap), YP w h → (K w.params).In h)
    (F : ∀ (w : World) (mg : Str → Option Value) (fa : Addr) (h : Heap), (K w.params).In h → h.Ns mainGlobals mg → mg d.name = some (.ref fa) →
      ∃ fd : FuncData, (∀ (s : Shared) (u : Value), BindsTo s fd ⟨[u], []⟩ [("script", u)]) ∧ ∀ base : Heap, (K w.params).In base → base.Ns mainGlobals mg → FnOk l.prog w (K w.params) mg base CX0 6 fa fd ["script"] (spLaw (K w.params))) :
    PySem.W.WalkO q loose XP YP l.row.toRowW d [] (fun f vs => PySem.call f vs) :=
  L2.walk_of (n := 63) (k := 6) (x := "script") (CX := fun w => CX0) (sp := fun w => spLaw (K w.params)) hn (by decide) hdf ⟨rfl, by decide, by decide⟩ hY F (fun _ _ a ns hl _ hS => ⟨a, ns, rfl, hS, hl, fun _ => rfl⟩) fun _ _ _ _ _ z => z
end FT
open PySem PySem.W PyProof.Rows
set_option maxRecDepth 100000 in
set_option maxHeartbeats 0 in
theorem PySem.Challenge.cw_firetree_k07_written_and_read_holds : PySem.Challenge.rw_firetree_k07_written_and_read.Holds := by
  w_on; o_law; k_head; (case hw => w_witness2)
  k_fill
  refine FT.walk (l := PySem.Challenge.rw_firetree_k07_written_and_read) rfl rfl (fun w h Y => PySem.W.kIn_of Y) ?F
  case F =>
    intro w mg fa h KX G hmg
    refine' FT.all_mk KX G hmg ?aC ?a1 ?l1 ?c1 ?k1 ?a2 ?l2 ?c2 ?k2 ?a3 ?l3 ?c3 ?k3 ?a4 ?l4 ?c4 ?k4 ?a5 ?l5 ?c5 ?k5 ?a6 ?l6 ?c6 ?k6 ?a7 ?l7 ?c7 ?k7 ?a8 ?l8 ?c8 ?k8 ?a9 ?l9 ?c9 ?k9 ?a10 ?l10 ?c10 ?k10 ?a11 ?l11 ?c11 ?k11 ?a12 ?l12 ?c12 ?k12 ?a13 ?l13 ?c13 ?k13 ?a14 ?i14 ?l14 ?c14 ?k14 ?a15 ?i15 ?l15 ?c15 ?k15 ?a16 ?i16 ?l16 ?c16 ?k16 ?pg ?hd ?po ?sa ?mk ?kc ?na0 ?na1 ?co0 ?co1 ?co2 ?z0 ?z1 ?z2 ?z3 ?z4 ?z5 ?z6 ?z7 ?z8 ?z9 ?z10 ?z11 ?z12 ?z13 ?ki0 ?ki1 ?nF ?oa ?on ?ot ?om
    (case aC => k_is)
    (case a1 => k_is)
    (case l1 => k_is)
    (case c1 => k_is)
    (case k1 => k_is)
    (case a2 => k_is)
    (case l2 => k_is)
    (case c2 => k_is)
    (case k2 => k_is)
    (case a3 => k_is)
    (case l3 => k_is)
    (case c3 => k_is)
    (case k3 => k_is)
    (case a4 => k_is)
    (case l4 => k_is)
    (case c4 => k_is)
    (case k4 => k_is)
    (case a5 => k_is)
    (case l5 => k_is)
    (case c5 => k_is)
    (case k5 => k_is)
    (case a6 => k_is)
    (case l6 => k_is)
    (case c6 => k_is)
    (case k6 => k_is)
    (case a7 => k_is)
    (case l7 => k_is)
    (case c7 => k_is)
    (case k7 => k_is)
    (case a8 => k_is)
    (case l8 => k_is)
    (case c8 => k_is)
    (case k8 => k_is)
    (case a9 => k_is)
    (case l9 => k_is)
    (case c9 => k_is)
    (case k9 => k_is)
    (case a10 => k_is)
    (case l10 => k_is)
    (case c10 => k_is)
    (case k10 => k_is)
    (case a11 => k_is)
    (case l11 => k_is)
    (case c11 => k_is)
    (case k11 => k_is)
    (case a12 => k_is)
    (case l12 => k_is)
    (case c12 => k_is)
    (case k12 => k_is)
    (case a13 => k_is)
    (case l13 => k_is)
    (case c13 => k_is)
    (case k13 => k_is)
    (case a14 => k_is)
    (case i14 => k_is)
    (case l14 => k_is)
    (case c14 => k_is)
    (case k14 => k_is)
    (case a15 => k_is)
    (case i15 => k_is)
    (case l15 => k_is)
    (case c15 => k_is)
    (case k15 => k_is)
    (case a16 => k_is)
    (case i16 => k_is)
    (case l16 => k_is)
    (case c16 => k_is)
    (case k16 => k_is)
    (case pg => k_is)
    (case hd => k_is)
    (case po => k_is)
    (case sa => k_is)
    (case mk => k_is)
    (case kc => k_is)
    (case na0 => k_is)
    (case na1 => k_is)
    (case co0 => k_is)
    (case co1 => k_is)
    (case co2 => k_is)
    (case z0 => k_is)
    (case z1 => k_is)
    (case z2 => k_is)
    (case z3 => k_is)
    (case z4 => k_is)
    (case z5 => k_is)
    (case z6 => k_is)
    (case z7 => k_is)
    (case z8 => k_is)
    (case z9 => k_is)
    (case z10 => k_is)
    (case z11 => k_is)
    (case z12 => k_is)
    (case z13 => k_is)
    (case ki0 => first | rfl | k_is | kit_is)
    (case ki1 => first | rfl | k_is | kit_is)
    (case nF => k_is)
    (case oa => k_is)
    (case on => k_is)
    (case ot => k_is)
    (case om => k_is)
#print axioms PySem.Challenge.cw_firetree_k07_written_and_read_holds
