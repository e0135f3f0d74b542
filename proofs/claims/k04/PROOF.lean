import PyProof.Rows.All
import Wide.All
import OpenK.AllK
import Wide.FinOn
import Lean
import PyProof.EqAt
import PyProof.EqKinds
import PyProof.TupleCall
import PyProof.NeKinds
import PyProof.EnumIter
import PyProof.EnumMake
import PyProof.ExcArgs
import PyProof.WalkInts
import PyProof.SeqI3
import PySem.Challenge.RW_firetree_k04_whole_greatest
set_option Elab.async false
set_option linter.all false
set_option maxRecDepth 100000
namespace L2
open PySem PySem.Spec PyProof.Rows
/-- a key: an int or a str -/
abbrev Key := Sum Int Str
def keyIs : Key → Value → Bool
  | .inl k, v => Value.isInt k v
  | .inr x, v => Value.isStrOf x v
def keyH (w : World) : Key → Int
  | .inl k => hashInt k
  | .inr x => hashStr w x
theorem keyIs_shape : ∀ {k : Key} {v : Value}, keyIs k v = true → (∃ i t, k = Sum.inl i ∧ v = Value.int i t) ∨ (∃ x t, k = Sum.inr x ∧ v = Value.str x t)
  | .inl i, v, h => by
    obtain ⟨t, e⟩ := Value.isInt_shape (k := i) (v := v) h
    exact .inl ⟨i, t, rfl, e⟩
  | .inr x, v, h => by
    obtain ⟨t, e⟩ := Value.isStrOf_shape (x := x) (v := v) h
    exact .inr ⟨x, t, rfl, e⟩
theorem key_ll (a b : Int) : decide ((Sum.inl a : Key) = Sum.inl b) = (a == b) := by
  by_cases e : a = b
  · subst e; simp
  · have h : ¬ (Sum.inl a : Key) = Sum.inl b := fun q => e (Sum.inl.inj q)
    rw [decide_eq_false h]
    exact (beq_eq_false_iff_ne.mpr e).symm
theorem key_rr (a b : Str) : decide ((Sum.inr a : Key) = Sum.inr b) = decide (a = b) := by
  by_cases e : a = b
  · subst e; simp
  · have h : ¬ (Sum.inr a : Key) = Sum.inr b := fun q => e (Sum.inr.inj q)
    rw [decide_eq_false h, decide_eq_false e]
theorem key_lr (a : Int) (b : Str) : decide ((Sum.inl a : Key) = Sum.inr b) = false := decide_eq_false (fun q => nomatch q)
theorem key_rl (a : Str) (b : Int) : decide ((Sum.inr a : Key) = Sum.inl b) = false := decide_eq_false (fun q => nomatch q)
def mixKind (prog : Program) (w : World) : PySem.KeyKind prog w Key where
  is := keyIs
  hash := keyH w
  inj := fun v a b ha hb => by
    rcases keyIs_shape ha with ⟨i, t, rfl, rfl⟩ | ⟨x, t, rfl, rfl⟩
    · rcases keyIs_shape hb with ⟨j, u, rfl, e⟩ | ⟨y, u, rfl, e⟩
      · injection e with e1 _; rw [e1]
      · exact nomatch e
    · rcases keyIs_shape hb with ⟨j, u, rfl, e⟩ | ⟨y, u, rfl, e⟩
      · exact nomatch e
      · injection e with e1 _; rw [e1]
  byValue := fun k v h => by
    rcases keyIs_shape h with ⟨i, t, rfl, rfl⟩ | ⟨x, t, rfl, rfl⟩ <;> rfl
  pyHash := fun hv h => by
    rcases keyIs_shape hv with ⟨i, t, rfl, rfl⟩ | ⟨x, t, rfl, rfl⟩
    · exact wpAny_pyHash_int h
    · exact wpAny_pyHash_str h
  eqBool := fun hu hv h => by
    rcases keyIs_shape hu with ⟨i, t, rfl, rfl⟩ | ⟨x, t, rfl, rfl⟩
    · rcases keyIs_shape hv with ⟨j, u, rfl, rfl⟩ | ⟨y, u, rfl, rfl⟩
      · rw [key_ll] at h; exact wpAny_eqBool_int h
      · rw [key_lr] at h; exact SeqAt.EqAt.int_str i t y u _ _ _ _ h
    · rcases keyIs_shape hv with ⟨j, u, rfl, rfl⟩ | ⟨y, u, rfl, rfl⟩
      · rw [key_rl] at h; exact SeqAt.EqAt.str_int x t j u _ _ _ _ h
      · rw [key_rr] at h; exact wpAny_eqBool_str h
  «strs» := fun k x t v h => by
    rcases keyIs_shape h with ⟨i, u, rfl, e⟩ | ⟨y, u, rfl, e⟩
    · exact nomatch e
    · injection e with e1 _
      subst e1
      cases v <;> rfl
end L2
namespace L2
open PySem PySem.Spec PyProof.Rows
/-- a value, without the heap -/
inductive V where
  | non | bl (b : Bool) | int (i : Int) | str (x : Str) | byt (b : Array UInt8) | flt (b : UInt64) | ref (a : Addr) | ty (n : String)
  deriving DecidableEq
def RelV : V → Value → Prop
  | .non, u => u = Value.none
  | .bl b, u => u = Value.bool b
  | .int i, u => ∃ t, u = Value.int i t
  | .str x, u => ∃ t, u = Value.str x t
  | .byt b, u => ∃ t, u = Value.bytes b t
  | .flt b, u => ∃ t, u = Value.float b t
  | .ref a, u => u = Value.ref a
  | .ty n, u => u = Value.type n
abbrev Vals : List V → List Value → Prop := Paired RelV
theorem Vals.length {xs : List V} {us : List Value} (r : Vals xs us) : xs.length = us.length := Paired.length r
theorem Vals.get : ∀ {xs : List V} {us : List Value} {i : Nat} {x : V}, Vals xs us → xs[i]? = some x → ∃ u, us[i]? = some u ∧ RelV x u
  | _, _, _, _, .nil, e => by simp at e
  | _, _, 0, _, .cons r _, e => by simp at e; subst e; exact ⟨_, rfl, r⟩
  | _, _, i + 1, x, .cons _ t, e => by
    obtain ⟨u, h1, h2⟩ := Vals.get (i := i) (x := x) t (by simpa using e)
    exact ⟨u, by simpa using h1, h2⟩
theorem Vals.append : ∀ {xs ys : List V} {us ws : List Value}, Vals xs us → Vals ys ws → Vals (xs ++ ys) (us ++ ws)
  | _, _, _, _, .nil, s => s
  | _, _, _, _, .cons r t, s => .cons r (Vals.append t s)
def RelO : Option V → Option Value → Prop
  | some v, some u => RelV v u
  | none, none => True
  | _, _ => False
def KV {κ : Type} : List (κ × V) → List (κ × Value) → Prop := Paired fun (p : κ × V) (q : κ × Value) => p.1 = q.1 ∧ RelV p.2 q.2
/-- a key of a dict (00_mix): an int or a text -/
def kV : Key → V
  | .inl i => .int i
  | .inr x => .str x
/-- what stands at a tracked address -/
inductive HO where
  /-- a list -/
  | lst (xs : List V)
  /-- a tuple (never changes) -/
  | tup (xs : List V)
  /-- a dict whose keys are ints and texts; one whose keys are tuples of ints and texts (the empty one is both) -/
  | dK (kvs : List (Key × V)) | dT (kvs : List (List Key × V))
  /-- a set of ints: its members, its size -/
  | set (S : Int → Bool) (n : Nat)
  /-- an instance of the class at C, its dict at dx, its attributes -/
  | ins (C dx : Addr) (fs : List (Str × V))
  /-- the dict of the instance at x -/
  | own (x : Addr)
  /-- the dict of an exception -/
  | xd (fs : List (Str × V))
  /-- a bound method, f of x -/
  | met (f x : Addr)
  /-- a range object lo, lo + 1, .. below hi -/
  | rng (lo hi : Int)
  /-- a thing that is known to the object (the script; a dict while a loop walks it): read, never written while it is so -/
  | frz (o : Obj) (u : HO)
  /-- a code object's table -/
  | tbl (ps : Array Value)
  /-- any other thing, by what is true of its one object (a def of one's own: SetO a S n := HO.ext fun h => ..) -/
  | ext (φ : Heap → Prop)
abbrev Hp := Addr → Option HO
def upd (H : Hp) (a : Addr) (o : HO) : Hp := fun b => if b = a then some o else H b
theorem upd_same {H : Hp} {a : Addr} {o : HO} : upd H a o a = some o := by unfold upd; rw [if_pos rfl]
theorem upd_ne {H : Hp} {a b : Addr} {o : HO} (h : b ≠ a) : upd H a o b = H b := by unfold upd; rw [if_neg h]
/-- two objects of different content stand apart -/
theorem ne_of {H : Hp} {a b : Addr} {o u : HO} (h : H a = some o) (h' : H b = some u) (d : o ≠ u) : a ≠ b := by
  intro e; subst e; rw [h] at h'; exact d (Option.some.inj h')
theorem ne_of_none {H : Hp} {a b : Addr} {o : HO} (h : H a = some o) (h' : H b = none) : a ≠ b := by
  intro e; subst e; rw [h] at h'; cases h'
section
variable (P : Program) (w : World)
def ObjOk (H : Hp) (h : Heap) (a : Addr) : HO → Prop
  | .lst xs => xs.length ≤ sizeLine ∧ ∃ (its : List Value) (n : Nat), Vals xs its ∧ h.get? a = some { cls := .type "list", data := .seq its.toArray n }
  | .tup xs => xs.length ≤ sizeLine ∧ ∃ its : List Value, Vals xs its ∧ IsTup h a its.toArray
  | .dK kvs => kvs.length ≤ sizeLine ∧ (a == sysModules) = false ∧ ∃ vs, KV kvs vs ∧ h.DictOf (mixKind P w) a vs
  | .dT kvs => kvs.length ≤ sizeLine ∧ (a == sysModules) = false ∧ ∃ xs : List (List Key × Addr × Value),
      Paired (fun (p : List Key × V) (q : List Key × Addr × Value) => p.1 = q.1 ∧ H q.2.1 = some (.tup (p.1.map kV)) ∧ RelV p.2 q.2.2) kvs xs ∧
      ∃ o es ep, h.get? a = some o ∧ o.ExactDict ∧ o.data = .dict es ep ∧ es.toList = xs.map (entryOfKey (tupleKind (mixKind P w))) ∧ (xs.map (·.1)).Nodup
  | .set S n => h.SetOf (intKind P w) a S n
  | .ins C dx fs => H dx = some (.own a) ∧ fs.length ≤ 1000 ∧ dx ≠ a ∧ h.get? a = some (PySem.W.instObj C dx) ∧
      ∃ mA, h.Ns1 dx mA ∧ (∀ f, RelO (fs.lookup f) (mA f)) ∧ PySem.Within mA (fs.map (·.1))
  | .own _ => ∃ o, h.get? a = some o
  | .xd fs => ∃ mA, h.Ns1 a mA ∧ ∀ f, RelO (fs.lookup f) (mA f)
  | .rng lo hi => ∃ t u v, h.get? a = some { cls := .type "range", data := .fields #[.int lo t, .int hi u, .int 1 v] }
  | .frz o u => h.get? a = some o ∧ ObjOk H h a u
  | .tbl ps => h.get? a = some { cls := .none, data := .fields ps }
  | .met f x => h.get? a = some (PySem.W.methodObj (.ref f) (.ref x))
  | .ext φ => φ h ∧ (∃ o, h.get? a = some o) ∧ ∀ h1 h2 : Heap, φ h1 → (∀ o, h1.get? a = some o → h2.get? a = some o) → φ h2
/-- the abstract heap is held -/
def HOk (H : Hp) (h : Heap) : Prop := ∀ a o, H a = some o → ObjOk P w H h a o
end
section
variable {P : Program} {w : World} {H H' : Hp} {h h' : Heap} {a : Addr} {o : HO}
theorem ObjOk.lt (x : ObjOk P w H h a o) : a < h.objs.size := by
  cases o with
  | lst xs => obtain ⟨_, _, _, _, e⟩ := x; exact Heap.lt_size e
  | tup xs => obtain ⟨_, _, _, p⟩ := x; exact p.lt
  | dK kvs => obtain ⟨_, _, _, _, o, _, _, e, _⟩ := x; exact Heap.lt_size e
  | dT kvs => obtain ⟨_, _, _, _, o, _, _, e, _⟩ := x; exact Heap.lt_size e
  | set S n => obtain ⟨o, _, _, _, e, _⟩ := x; exact Heap.lt_size e
  | ins C dx fs => obtain ⟨_, _, _, e, _⟩ := x; exact Heap.lt_size e
  | own y => obtain ⟨_, e⟩ := x; exact Heap.lt_size e
  | xd fs => obtain ⟨_, ⟨_, _, _, e, _⟩, _⟩ := x; exact Heap.lt_size e
  | rng lo hi => obtain ⟨_, _, _, e⟩ := x; exact Heap.lt_size e
  | frz ob u => obtain ⟨e, _⟩ := x; exact Heap.lt_size e
  | tbl ps => exact Heap.lt_size (show h.get? a = some _ from x)
  | met f y => exact Heap.lt_size (show h.get? a = some _ from x)
  | ext φ => obtain ⟨_, ⟨_, e⟩, _⟩ := x; exact Heap.lt_size e
theorem Paired.mapP {α β : Type} {F G : α → β → Prop} : ∀ {l₁ : List α} {l₂ : List β}, Paired F l₁ l₂ → (∀ a b, F a b → G a b) → Paired G l₁ l₂
  | _, _, .nil, _ => .nil
  | _, _, .cons r t, f => .cons (f _ _ r) (Paired.mapP t f)
/-- what an object's description leans on: its own object, its own dict, the tuples -/
theorem ObjOk.stay (x : ObjOk P w H h a o) (k : ∀ b u, (b = a ∨ H b = some (.own a)) → h.get? b = some u → h'.get? b = some u)
    (ho : ∀ b, H b = some (.own a) → H' b = some (.own a)) (ht : ∀ b xs, H b = some (.tup xs) → H' b = some (.tup xs)) : ObjOk P w H' h' a o := by
  induction o with
  | lst xs => obtain ⟨z, its, n, r, e⟩ := x; exact ⟨z, its, n, r, k _ _ (.inl rfl) e⟩
  | tup xs => obtain ⟨z, its, r, ob, e, c⟩ := x; exact ⟨z, its, r, ob, k _ _ (.inl rfl) e, c⟩
  | dK kvs => obtain ⟨z, y, vs, r, ob, es, ep, e, c⟩ := x; exact ⟨z, y, vs, r, ob, es, ep, k _ _ (.inl rfl) e, c⟩
  | dT kvs =>
    obtain ⟨z, y, xs, r, ob, es, ep, e, c⟩ := x
    exact ⟨z, y, xs, Paired.mapP r fun p q z => ⟨z.1, ht _ _ z.2.1, z.2.2⟩, ob, es, ep, k _ _ (.inl rfl) e, c⟩
  | set S n => obtain ⟨ob, es, ep, t, e, c⟩ := x; exact ⟨ob, es, ep, t, k _ _ (.inl rfl) e, c⟩
  | ins C dx fs =>
    obtain ⟨d, z, ne, e, mA, ⟨od, es, ep, e2, c⟩, r⟩ := x
    exact ⟨ho _ d, z, ne, k _ _ (.inl rfl) e, mA, ⟨od, es, ep, k _ _ (.inr d) e2, c⟩, r⟩
  | own y => obtain ⟨ob, e⟩ := x; exact ⟨ob, k _ _ (.inl rfl) e⟩
  | xd fs => obtain ⟨mA, ⟨od, es, ep, e, c⟩, r⟩ := x; exact ⟨mA, ⟨od, es, ep, k _ _ (.inl rfl) e, c⟩, r⟩
  | rng lo hi => obtain ⟨t, u, v, e⟩ := x; exact ⟨t, u, v, k _ _ (.inl rfl) e⟩
  | frz ob u ih => obtain ⟨e, q⟩ := x; exact ⟨k _ _ (.inl rfl) e, ih q⟩
  | tbl ps =>
    have e : h.get? a = some { cls := .none, data := .fields ps } := x
    show h'.get? a = some { cls := .none, data := .fields ps }
    exact k a _ (.inl rfl) e
  | met f y =>
    have e : h.get? a = some (PySem.W.methodObj (.ref f) (.ref y)) := x
    show h'.get? a = some (PySem.W.methodObj (.ref f) (.ref y))
    exact k a _ (.inl rfl) e
  | ext φ => obtain ⟨p, ⟨o, e⟩, st⟩ := x; exact ⟨st _ _ p fun o q => k _ _ (.inl rfl) q, ⟨o, k _ _ (.inl rfl) e⟩, st⟩
theorem HOk.lt (x : HOk P w H h) (e : H a = some o) : a < h.objs.size := (x a o e).lt
theorem HOk.fresh (x : HOk P w H h) (e : h.objs.size ≤ a) : H a = none := by
  cases q : H a with
  | none => rfl
  | some u => exact absurd (Nat.lt_of_lt_of_le (x.lt q) e) (Nat.lt_irrefl _)
/-- every object of the heap is kept -/
theorem HOk.kept (x : HOk P w H h) (k : ∀ b u, h.get? b = some u → h'.get? b = some u) : HOk P w H h' := fun a o e =>
  (x a o e).stay (fun b u _ q => k b u q) (fun _ q => q) fun _ _ q => q
/-- a new object is laid and tracked -/
theorem HOk.laid (x : HOk P w H h) (k : ∀ b u, h.get? b = some u → h'.get? b = some u) (hp : h.objs.size ≤ a) (new : ObjOk P w (upd H a o) h' a o) : HOk P w (upd H a o) h' := fun b u e => by
  have hn := x.fresh hp
  by_cases hb : b = a
  · subst hb; rw [upd_same] at e; cases e; exact new
  · rw [upd_ne hb] at e
    exact (x b u e).stay (fun c v _ q => k c v q) (fun c q => by rw [upd_ne (ne_of_none q hn)]; exact q) fun c xs q => by rw [upd_ne (ne_of_none q hn)]; exact q
end
/-- what may be read as u: it is u, or a known u -/
def Rd (H : Hp) (a : Addr) (u : HO) : Prop := H a = some u ∨ ∃ o, H a = some (.frz o u)
theorem Rd.ok {P : Program} {w : World} {H : Hp} {h : Heap} {a : Addr} {u : HO} (r : Rd H a u) (x : HOk P w H h) : ObjOk P w H h a u := by
  rcases r with r | ⟨o, r⟩
  · exact x a u r
  · obtain ⟨_, q⟩ := x a _ r
    exact q
/-- what may be written -/
def Mut : Option HO → Prop
  | some (.lst _) => True
  | some (.dK _) => True
  | some (.dT _) => True
  | some (.set _ _) => True
  | some (.ins _ _ _) => True
  | some (.ext _) => True
  | _ => False
section
variable {P : Program} {w : World} {H : Hp} {h h' : Heap} {x e : Addr} {o' : HO}
/-- the object at e is changed: x itself, or the dict of the instance x -/
theorem HOk.write (ok : HOk P w H h) (mu : Mut (H x)) (he : e = x ∨ H e = some (.own x)) (k : ∀ b u, b ≠ e → h.get? b = some u → h'.get? b = some u) (heo : ∃ u, h'.get? e = some u)
    (new : ObjOk P w (upd H x o') h' x o') : HOk P w (upd H x o') h' := fun b u q => by
  have nown : ∀ c y, H c = some (.own y) → c ≠ x := fun c y r z => by subst z; rw [r] at mu; exact mu
  have ntup : ∀ c xs, H c = some (.tup xs) → c ≠ x := fun c xs r z => by subst z; rw [r] at mu; exact mu
  by_cases hb : b = x
  · subst hb; rw [upd_same] at q; cases q; exact new
  · rw [upd_ne hb] at q
    by_cases hbe : b = e
    · have q' : H b = some (.own x) := by
        rcases he with z | z
        · exact absurd (hbe.trans z) hb
        · rw [hbe]; exact z
      rw [q] at q'; cases q'
      obtain ⟨v, hv⟩ := heo
      exact ⟨v, by rw [hbe]; exact hv⟩
    · refine (ok b u q).stay (fun c v hc r => k c v ?_ r) (fun c r => by rw [upd_ne (nown c b r)]; exact r) fun c xs r => by rw [upd_ne (ntup c xs r)]; exact r
      rcases hc with rfl | hc
      · exact hbe
      · rintro rfl
        rcases he with z | z
        · exact nown c b hc z
        · rw [hc] at z; cases z; exact hb rfl
end
structure Un (fs ex : List Addr) (H H' : Hp) (h h' : Heap) : Prop where
  keep : ∀ b o, h.get? b = some o → H b = none → b ∉ fs → b ∉ ex → h'.get? b = some o
  slot : ∀ b o, h.get? b = some o → H b = none → b ∈ fs → b ∉ ex → ∃ sl, h'.get? b = some { o with slots := sl }
  free : ∀ b o, h.get? b = some o → H b = none → b ∉ ex → H' b = none
  there : ∀ b o, h.get? b = some o → b ∉ ex → ∃ o', h'.get? b = some o'
  tups : ∀ b xs, H b = some (.tup xs) → H' b = some (.tup xs)
  frzs : ∀ b o u, H b = some (.frz o u) → H' b = some (.frz o u)
  tbls : ∀ b ps, H b = some (.tbl ps) → ∃ more, H' b = some (.tbl (ps ++ more))
section
variable {fs fs' ex ex' : List Addr} {H H1 H2 : Hp} {h h1 h2 h' : Heap} {a x e : Addr} {o : HO}
theorem Un.any (u : Un fs ex H H1 h h1) {b : Addr} {ob : Obj} (q : h.get? b = some ob) (n : H b = none) (hx : b ∉ ex) : ∃ sl, h1.get? b = some { ob with slots := sl } := by
  by_cases hb : b ∈ fs
  · exact u.slot b ob q n hb hx
  · exact ⟨ob.slots, u.keep b ob q n hb hx⟩
theorem Un.kept (k : ∀ b u, h.get? b = some u → h'.get? b = some u) : Un fs ex H H h h' :=
  ⟨fun b ob q _ _ _ => k b ob q, fun b ob q _ _ _ => ⟨ob.slots, k b ob q⟩, fun _ _ _ n _ => n, fun b ob q _ => ⟨ob, k b ob q⟩, fun _ _ q => q, fun _ _ _ q => q, fun _ ps q => ⟨#[], by rw [q]; simp⟩⟩
theorem Un.refl : Un fs ex H H h h := Un.kept fun _ _ q => q
theorem Un.laid (k : ∀ b u, h.get? b = some u → h'.get? b = some u) (hp : h.objs.size ≤ a) (hn : H a = none) : Un fs ex H (upd H a o) h h' where
  keep := fun b u q _ _ _ => k b u q
  slot := fun b u q _ _ _ => ⟨u.slots, k b u q⟩
  free := fun b u q n _ => by rw [upd_ne (Nat.ne_of_lt (Nat.lt_of_lt_of_le (Heap.lt_size q) hp))]; exact n
  there := fun b u q _ => ⟨u, k b u q⟩
  tups := fun b xs q => by rw [upd_ne (ne_of_none q hn)]; exact q
  frzs := fun b u xs q => by rw [upd_ne (ne_of_none q hn)]; exact q
  tbls := fun b ps q => ⟨#[], by rw [upd_ne (ne_of_none q hn), q]; simp⟩
theorem Un.write (mu : Mut (H x)) (he : e = x ∨ H e = some (.own x)) (k : ∀ b u, b ≠ e → h.get? b = some u → h'.get? b = some u) (heo : ∃ u, h'.get? e = some u) : Un fs ex H (upd H x o) h h' := by
  have hx : ∀ b, H b = none → b ≠ x := fun b n z => by subst z; rw [n] at mu; exact mu
  have hb : ∀ b, H b = none → b ≠ e := fun b n z => by
    subst z
    rcases he with r | r
    · exact hx b n r
    · rw [n] at r; cases r
  have hm : ∀ b u, H b = some u → ¬ Mut (some u) → b ≠ x := fun b u q nm z => by subst z; rw [q] at mu; exact nm mu
  refine ⟨fun b u q n _ _ => k b u (hb b n) q, fun b u q n _ _ => ⟨u.slots, k b u (hb b n) q⟩, fun b u q n _ => by rw [upd_ne (hx b n)]; exact n, fun b u q _ => ?_,
    fun b xs q => by rw [upd_ne (hm b _ q fun z => z)]; exact q, fun b u xs q => by rw [upd_ne (hm b _ q fun z => z)]; exact q, fun b ps q => ⟨#[], by rw [upd_ne (hm b _ q fun z => z), q]; simp⟩⟩
  by_cases hbe : b = e
  · subst hbe; exact heo
  · exact ⟨u, k b u hbe q⟩
end
def trk (h : Heap) (H : Hp) : List Addr := (List.range h.objs.size).filter fun a => (H a).isSome
def hidT (h : Heap) (H : Hp) : Heap := PySem.W.hideAll h (trk h H)
theorem hidT_size (h : Heap) (H : Hp) : (hidT h H).objs.size = h.objs.size := PySem.W.hideAll_size _ _
theorem hidT_get {h : Heap} {H : Hp} {b : Addr} {o : Obj} (e : h.get? b = some o) (n : H b = none) : (hidT h H).get? b = some o :=
  PySem.W.hideAll_get _ e fun hm => by
    have q : (H b).isSome = true := (List.mem_filter.mp hm).2
    rw [n] at q; simp at q
theorem of_hidT {h : Heap} {H : Hp} {b : Addr} {o : Obj} (e : (hidT h H).get? b = some o) : h.get? b = some o ∧ H b = none := by
  have e' : h.get? b = some o := PySem.W.of_hideAll (trk h H) e
  refine ⟨e', ?_⟩
  cases q : H b with
  | none => rfl
  | some x =>
    have hm : b ∈ trk h H := List.mem_filter.mpr ⟨List.mem_range.mpr (Heap.lt_size e'), by simp [q]⟩
    have z : (hidT h H).get? b = none := PySem.W.hideAll_none (trk h H) hm
    rw [z] at e; cases e
end L2
namespace L2
open PySem PySem.Spec PyProof.Rows
/-- the module's facts, over the base: the heap at the law's entry without what is tracked there -/
structure Mod (K : PySem.W.Frag) (mg : Str → Option Value) (base : Heap) : Prop where
  kin : K.In base
  glob : base.Ns mainGlobals mg
  blt : ∃ mb, base.Ns builtinsNs mb ∧ ∀ x : Str, x ≠ "__name__" → mb x = bootBuiltins x
  nolimit : base.NoLimit
/-- the context: a def's body (or a comprehension's block) running. base: fixed through the whole law; s₀, H₀: the entry; outer: the frames whose slots others may change (a def's callers); stack: all frames that run;
   ex: iterators that were made ahead of the entry and are walked here (a comprehension's); fn: the names whose cells were made at the entry (a def: all; a comprehension's block: its own); calm: not within an except suite; pn: pins that every state bears; xe: what is wanted of an exception that leaves the code -/
structure Cx where
  prog : Program
  w : World
  K : PySem.W.Frag
  mg : Str → Option Value
  base : Heap
  A : Around
  N : List Str
  s₀ : Shared
  H₀ : Hp
  env : Env
  outer : List Env
  stack : List Env
  ex : List Addr
  fn : Str → Bool
  calm : Bool
  pn : List (Addr × Obj)
  xe : Value → Shared → Prop
/-- the callers' frames -/
def frs (l : List Env) : List Addr := l.filterMap (·.frame)
abbrev Cx.fs (X : Cx) : List Addr := frs X.outer
def Vis (sc : Scope) (x : Str) : Prop := sc.names.lookup x = some .local ∨ sc.names.lookup x = some .cell ∨ sc.names.lookup x = some .free
def Loc (sc : Scope) (x : Str) : Prop := sc.names.lookup x = some .local ∨ sc.names.lookup x = some .cell
def Look (env : Env) (h : Heap) (m : Str → Option Value) (x : Str) (u : Value) : Prop :=
  (env.kindOf x = some .local ∧ m x = some u) ∨ ((env.kindOf x = some .cell ∨ env.kindOf x = some .free) ∧ ∃ c, env.cells.lookup x = some c ∧ h.IsCell c (some u))
structure Cx.Ok (X : Cx) : Prop where
  mod : Mod X.K X.mg X.base
  kind : X.env.scope.kind = .function
  glob : X.env.globals = mainGlobals
  blt : X.env.builtins = builtinsNs
  above : X.s₀.heap.objs.size ≤ X.env.locals
  inj : ∀ x y c, X.env.cells.lookup x = some c → X.env.cells.lookup y = some c → x = y
  has : ∀ x, (X.env.kindOf x = some .cell ∨ X.env.kindOf x = some .free) → ∃ c, X.env.cells.lookup x = some c
  cab : ∀ x c, X.fn x = true → X.env.cells.lookup x = some c → X.s₀.heap.objs.size ≤ c
  hd : X.calm = true → X.A.handled = none
  frames : X.A.frames = some X.stack
  stk : X.stack = X.outer ∨ (X.stack = X.env :: X.outer ∧ X.env.frame = some X.env.locals)
  exf : ∀ b ∈ X.ex, b ≠ X.env.locals ∧ ∀ x c, X.env.cells.lookup x = some c → c ≠ b
  bs : ∀ b o, X.base.get? b = some o → X.s₀.heap.get? b = some o ∧ X.H₀ b = none
  bsz : X.base.objs.size ≤ X.s₀.heap.objs.size
  noex : ∀ b o, X.base.get? b = some o → b ∉ X.ex
  exfs : ∀ b ∈ X.ex, b ∉ X.fs
  funs : X.s₀.heap.FunFrames X.base X.outer
  frf : ∀ b ∈ X.fs, X.H₀ b = none
structure Inv (X : Cx) (pins : List (Addr × Obj)) (σ : List (Option V)) (H : Hp) (s : Shared) : Prop where
  ok : X.Ok
  os : s.os = X.s₀.os
  bare : AllBare s.gens
  base : Un X.fs X.ex X.H₀ H X.s₀.heap s.heap
  loc : ∃ m, s.heap.Ns X.env.locals m ∧ ∀ (i : Nat) (x : Str) (v : V), X.N[i]? = some x → σ[i]? = some (some v) → Vis X.env.scope x → ∃ u, RelV v u ∧ Look X.env s.heap m x u
  cell : ∀ x c, X.env.cells.lookup x = some c → ∃ v, s.heap.IsCell c v
  free : H X.env.locals = none
  freeC : ∀ x c, X.env.cells.lookup x = some c → H c = none
  pin : ∀ p ∈ X.pn ++ pins, s.heap.get? p.1 = some p.2 ∧ H p.1 = none ∧ p.1 ≠ X.env.locals ∧ p.1 ∉ X.fs ∧ ∀ v, p.2.data ≠ .cell v
  hok : HOk X.prog X.w H s.heap
  len : σ.length = X.N.length
section
variable {X : Cx} {pins : List (Addr × Obj)} {σ : List (Option V)} {H H' : Hp} {s : Shared} {h' : Heap}
theorem Cx.Ok.nofr (ok : X.Ok) {b : Addr} {o : Obj} (e : X.base.get? b = some o) : b ∉ X.fs := fun hb => by
  have := (ok.funs.mem hb).1
  rw [e] at this; cases this
theorem Inv.bs (I : Inv X pins σ H s) : ∀ b o, X.base.get? b = some o → s.heap.get? b = some o ∧ H b = none := fun b o e =>
  ⟨I.base.keep b o (I.ok.bs b o e).1 (I.ok.bs b o e).2 (I.ok.nofr e) (I.ok.noex b o e), I.base.free b o (I.ok.bs b o e).1 (I.ok.bs b o e).2 (I.ok.noex b o e)⟩
theorem Inv.bk (I : Inv X pins σ H s) : ∀ b o, X.base.get? b = some o → s.heap.get? b = some o := fun b o e => (I.bs b o e).1
theorem Inv.mod (I : Inv X pins σ H s) : Mod X.K X.mg X.base := I.ok.mod
theorem Inv.kIn (I : Inv X pins σ H s) : X.K.In s.heap := I.ok.mod.kin.keeps I.bk
theorem Inv.lt (I : Inv X pins σ H s) : X.env.locals < s.heap.objs.size := let ⟨_, hn, _⟩ := I.loc; hn.lt
theorem Inv.sz (I : Inv X pins σ H s) : X.s₀.heap.objs.size ≤ s.heap.objs.size := Nat.le_trans I.ok.above (Nat.le_of_lt I.lt)
theorem Inv.nofs (I : Inv X pins σ H s) {a : Addr} (h : s.heap.objs.size ≤ a) : a ∉ X.fs := fun hb => by
  obtain ⟨_, o, ho, _⟩ := I.ok.funs.mem hb
  exact absurd (Nat.lt_of_lt_of_le (Heap.lt_size ho) (Nat.le_trans I.sz h)) (Nat.lt_irrefl _)
theorem Inv.cne (I : Inv X pins σ H s) : ∀ x c, X.env.cells.lookup x = some c → c ≠ X.env.locals := fun x c e z => by
  obtain ⟨v, o, ho, hd⟩ := I.cell x c e
  obtain ⟨m, ⟨o', es, ep, ho', hd', _⟩, _⟩ := I.loc
  rw [z, ho'] at ho; cases ho; rw [hd'] at hd; cases hd
theorem Inv.funs (I : Inv X pins σ H s) : s.heap.FunFrames X.base X.outer := by
  have all : ∀ (l : List Env), (∀ b ∈ frs l, b ∈ X.fs) → X.s₀.heap.FunFrames X.base l → s.heap.FunFrames X.base l := by
    intro l
    induction l with
    | nil => intro _ _; trivial
    | cons env r ih =>
      intro hs hl
      obtain ⟨hk, ⟨L, o, hf, hn, ho, hd⟩, hr⟩ := hl
      have hL : L ∈ X.fs := hs L (by unfold frs; rw [List.filterMap_cons, hf]; exact List.mem_cons_self)
      obtain ⟨sl, e⟩ := I.base.slot L o ho (I.ok.frf L hL) hL fun z => I.ok.exfs L z hL
      exact ⟨hk, ⟨L, _, hf, hn, e, hd⟩, ih (fun b hb => hs b (by unfold frs; rw [List.filterMap_cons, hf]; exact List.mem_cons_of_mem _ hb)) hr⟩
  exact all X.outer (fun _ hb => hb) I.ok.funs
/-- the frames that run, for a call -/
theorem Inv.stack (I : Inv X pins σ H s) : s.heap.FunFrames X.base X.stack := by
  rcases I.ok.stk with e | ⟨e, hf⟩
  · rw [e]; exact I.funs
  · rw [e]
    obtain ⟨m, hn, _⟩ := I.loc
    refine .cons (by rw [I.ok.kind]; decide) hf hn ?_ I.funs
    exact Heap.get?_none_of_le (Nat.le_trans I.ok.bsz I.ok.above)
theorem Inv.stkSub (I : Inv X pins σ H s) : ∀ b ∈ frs X.stack, b ∈ X.env.locals :: X.fs := fun b hb => by
  rcases I.ok.stk with e | ⟨e, hf⟩
  · rw [e] at hb; exact List.mem_cons_of_mem _ hb
  · rw [e] at hb
    unfold frs at hb
    rw [List.filterMap_cons, hf] at hb
    exact hb
theorem Inv.stkFree (I : Inv X pins σ H s) : ∀ b ∈ frs X.stack, H b = none := fun b hb => by
  rcases List.mem_cons.mp (I.stkSub b hb) with e | hb
  · rw [e]; exact I.free
  · obtain ⟨_, o, ho, _⟩ := I.ok.funs.mem hb
    exact I.base.free b o ho (I.ok.frf b hb) fun z => I.ok.exfs b z hb
/-- THE STEP: the untracked objects but the frame and the records at ch are kept (the callers' frames up to slots), the frame's map is kept, the new abstract heap is held -/
theorem Inv.step {g' : Array GenState} {t' : Nat} {d' : Drawn} {ch : List Addr} (I : Inv X pins σ H s)
    (hch : ∀ b ∈ ch, (b ∈ X.ex ∨ X.s₀.heap.objs.size ≤ b) ∧ b ≠ X.env.locals ∧ (∀ x c, X.env.cells.lookup x = some c → c ≠ b) ∧ ∀ p ∈ X.pn ++ pins, p.1 ≠ b)
    (keep : ∀ b o, b ≠ X.env.locals → b ∉ X.fs → b ∉ ch → s.heap.get? b = some o → H b = none → h'.get? b = some o)
    (slot : ∀ b o, b ≠ X.env.locals → b ∈ X.fs → b ∉ ch → s.heap.get? b = some o → H b = none → ∃ sl, h'.get? b = some { o with slots := sl }) (free : ∀ b o, b ∉ ch → s.heap.get? b = some o → H b = none → H' b = none)
    (there : ∀ b o, b ∉ ch → s.heap.get? b = some o → ∃ o', h'.get? b = some o')
    (tups : ∀ b xs, H b = some (.tup xs) → H' b = some (.tup xs)) (frzs : ∀ b o u, H b = some (.frz o u) → H' b = some (.frz o u)) (tbls : ∀ b ps, H b = some (.tbl ps) → ∃ more, H' b = some (.tbl (ps ++ more)))
    (ns : ∀ m, s.heap.Ns X.env.locals m → h'.Ns X.env.locals m) (hok : HOk X.prog X.w H' h') (hg : AllBare g') :
    Inv X pins σ H' { s with heap := h', gens := g', drawn := d', toks := t' } := by
  have neL : ∀ b o, X.s₀.heap.get? b = some o → b ≠ X.env.locals := fun b o e => Nat.ne_of_lt (Nat.lt_of_lt_of_le (Heap.lt_size e) I.ok.above)
  have neC : ∀ b o, X.s₀.heap.get? b = some o → b ∉ X.ex → b ∉ ch := fun b o e hx hb => by
    rcases (hch b hb).1 with z | z
    · exact hx z
    · exact absurd (Nat.lt_of_lt_of_le (Heap.lt_size e) z) (Nat.lt_irrefl _)
  have cellK : ∀ x c, X.env.cells.lookup x = some c → ∀ v, s.heap.IsCell c v → h'.IsCell c v := fun x c e v ⟨o, ho, hd⟩ => by
    have nch : c ∉ ch := fun z => (hch c z).2.2.1 x c e rfl
    by_cases hc : c ∈ X.fs
    · obtain ⟨sl, q⟩ := slot c o (I.cne x c e) hc nch ho (I.freeC x c e)
      exact ⟨_, q, hd⟩
    · exact ⟨o, keep c o (I.cne x c e) hc nch ho (I.freeC x c e), hd⟩
  refine ⟨I.ok, I.os, hg, ⟨fun b o e n hb hx => ?_, fun b o e n hb hx => ?_, fun b o e n hx => ?_, fun b o e hx => ?_, fun b xs e => tups b xs (I.base.tups b xs e), fun b o xs e => frzs b o xs (I.base.frzs b o xs e), fun b ps e => ?_⟩, ?_, fun x c e => ?_, ?_, fun x c e => ?_, fun p hp => ?_, hok, I.len⟩
  · exact keep b o (neL b o e) hb (neC b o e hx) (I.base.keep b o e n hb hx) (I.base.free b o e n hx)
  · obtain ⟨sl, e1⟩ := I.base.slot b o e n hb hx
    obtain ⟨sl', e2⟩ := slot b _ (neL b o e) hb (neC b o e hx) e1 (I.base.free b o e n hx)
    exact ⟨sl', e2⟩
  · obtain ⟨o', e1⟩ := I.base.there b o e hx
    exact free b o' (neC b o e hx) e1 (I.base.free b o e n hx)
  · obtain ⟨o', e1⟩ := I.base.there b o e hx
    exact there b o' (neC b o e hx) e1
  · obtain ⟨m1, e1⟩ := I.base.tbls b ps e
    obtain ⟨m2, e2⟩ := tbls b _ e1
    exact ⟨m1 ++ m2, by rw [e2, Array.append_assoc]⟩
  · obtain ⟨m, hn, hl⟩ := I.loc
    refine ⟨m, ns m hn, fun i x v e1 e2 e3 => ?_⟩
    obtain ⟨u, r, l⟩ := hl i x v e1 e2 e3
    refine ⟨u, r, ?_⟩
    rcases l with l | ⟨k, c, e, z⟩
    · exact .inl l
    · exact .inr ⟨k, c, e, cellK x c e _ z⟩
  · obtain ⟨v, z⟩ := I.cell x c e
    exact ⟨v, cellK x c e v z⟩
  · obtain ⟨m, ⟨o, _, _, ho, _⟩, _⟩ := I.loc
    exact free _ o (fun z => (hch _ z).2.1 rfl) ho I.free
  · obtain ⟨v, o, ho, hd⟩ := I.cell x c e
    exact free c o (fun z => (hch c z).2.2.1 x c e rfl) ho (I.freeC x c e)
  · obtain ⟨e, n, ne, nf, d⟩ := I.pin p hp
    have nch : p.1 ∉ ch := fun z => (hch p.1 z).2.2.2 p hp rfl
    exact ⟨keep p.1 p.2 ne nf nch e n, free p.1 p.2 nch e n, ne, nf, d⟩
/-- .. where the frame's own object is kept too -/
theorem Inv.un {t' : Nat} (I : Inv X pins σ H s) (u : Un X.fs [] H H' s.heap h') (hok : HOk X.prog X.w H' h') : Inv X pins σ H' { s with heap := h', toks := t' } := by
  obtain ⟨m, ⟨o, es, ep, ho, r⟩, _⟩ := id I.loc
  obtain ⟨sl, hL⟩ := u.any ho I.free (by simp)
  exact I.step (g' := s.gens) (d' := s.drawn) (ch := []) (fun _ z => nomatch z) (fun b o _ hb _ e n => u.keep b o e n hb (by simp)) (fun b o _ hb _ e n => u.slot b o e n hb (by simp)) (fun b o _ e n => u.free b o e n (by simp)) (fun b o _ e => u.there b o e (by simp)) u.tups u.frzs u.tbls (fun m' hm => by
    obtain ⟨o', es', ep', ho', r'⟩ := hm
    rw [ho] at ho'; cases ho'
    exact ⟨_, es', ep', hL, r'⟩) hok I.bare
/-- behind a call (or a comprehension's block): the slots of this frame may have changed too, the records at ch may have turned -/
theorem Inv.call {g' : Array GenState} {t' : Nat} {d' : Drawn} {ch : List Addr} (I : Inv X pins σ H s) (u : Un (frs X.stack) ch H H' s.heap h') (hok : HOk X.prog X.w H' h') (hg : AllBare g')
    (hch : ∀ b ∈ ch, (b ∈ X.ex ∨ X.s₀.heap.objs.size ≤ b) ∧ b ≠ X.env.locals ∧ (∀ x c, X.env.cells.lookup x = some c → c ≠ b) ∧ ∀ p ∈ X.pn ++ pins, p.1 ≠ b) :
    Inv X pins σ H' { s with heap := h', gens := g', drawn := d', toks := t' } := by
  obtain ⟨m, ⟨o, es, ep, ho, r⟩, _⟩ := id I.loc
  obtain ⟨sl, hL⟩ := u.any ho I.free fun z => (hch _ z).2.1 rfl
  exact I.step (ch := ch) hch (fun b o hL hb hc e n => u.keep b o e n (fun z => (List.mem_cons.mp (I.stkSub b z)).elim hL hb) hc) (fun b o _ _ hc e n => u.any e n hc) (fun b o hc e n => u.free b o e n hc) (fun b o hc e => u.there b o e hc) u.tups u.frzs u.tbls (fun m' hm => by
    obtain ⟨o', es', ep', ho', r'⟩ := hm
    rw [ho] at ho'; cases ho'
    exact ⟨_, es', ep', hL, r'⟩) hok hg
/-- an untracked record of ours (an iterator) has turned -/
theorem Inv.turned {t' : Nat} {it : Addr} (I : Inv X pins σ H s) (k : ∀ b o, b ≠ it → s.heap.get? b = some o → h'.get? b = some o) (hn : H it = none) (hL : it ≠ X.env.locals)
    (h1 : it ∈ X.ex ∨ X.s₀.heap.objs.size ≤ it) (h2 : ∀ x c, X.env.cells.lookup x = some c → c ≠ it) (h3 : ∀ p ∈ X.pn ++ pins, p.1 ≠ it) : Inv X pins σ H { s with heap := h', toks := t' } := by
  have nit : ∀ b u, H b = some u → b ≠ it := fun b u e z => by rw [z, hn] at e; cases e
  refine I.step (g' := s.gens) (d' := s.drawn) (ch := [it]) (fun b hb => ?_) (fun b o _ _ hc e _ => k b o (fun z => hc (by simp [z])) e) (fun b o _ _ hc e _ => ⟨o.slots, k b o (fun z => hc (by simp [z])) e⟩) (fun _ _ _ _ n => n)
    (fun b o hc e => ⟨o, k b o (fun z => hc (by simp [z])) e⟩) (fun _ _ e => e) (fun _ _ _ e => e) (fun b ps e => ⟨#[], by rw [e]; simp⟩) (fun m hm => ?_) (fun b u e => ?_) I.bare
  · have e : b = it := by simpa using hb
    subst e
    exact ⟨h1, hL, h2, h3⟩
  · obtain ⟨o, es, ep, ho, r⟩ := hm
    exact ⟨o, es, ep, k _ o (Ne.symm hL) ho, r⟩
  · refine (I.hok b u e).stay (fun c v hc q => k c v ?_ q) (fun _ q => q) fun _ _ q => q
    rcases hc with z | z
    · rw [z]; exact nit b u e
    · exact nit c _ z
theorem Inv.tok (I : Inv X pins σ H s) (t : Nat) : Inv X pins σ H { s with toks := t } := I.un (h' := s.heap) (t' := t) Un.refl I.hok
/-- all objects kept -/
theorem Inv.kept {t' : Nat} (I : Inv X pins σ H s) (k : ∀ b u, s.heap.get? b = some u → h'.get? b = some u) : Inv X pins σ H { s with heap := h', toks := t' } := I.un (Un.kept k) (I.hok.kept k)
/-- a new object laid and tracked -/
theorem Inv.laid {a : Addr} {o : HO} {t' : Nat} (I : Inv X pins σ H s) (k : ∀ b u, s.heap.get? b = some u → h'.get? b = some u) (hp : s.heap.objs.size ≤ a) (new : ObjOk X.prog X.w (upd H a o) h' a o) :
    Inv X pins σ (upd H a o) { s with heap := h', toks := t' } := I.un (Un.laid k hp (I.hok.fresh hp)) (I.hok.laid k hp new)
/-- an object written -/
theorem Inv.write {x e : Addr} {o : HO} {t' : Nat} (I : Inv X pins σ H s) (mu : Mut (H x)) (he : e = x ∨ H e = some (.own x)) (k : ∀ b u, b ≠ e → s.heap.get? b = some u → h'.get? b = some u) (heo : ∃ u, h'.get? e = some u)
    (new : ObjOk X.prog X.w (upd H x o) h' x o) : Inv X pins σ (upd H x o) { s with heap := h', toks := t' } := I.un (Un.write mu he k heo) (I.hok.write mu he k heo new)
/-- forgetting slots, pins -/
theorem Inv.weak {σ' : List (Option V)} (I : Inv X pins σ H s) (hl : σ'.length = σ.length) (w : ∀ (i : Nat) v, σ'[i]? = some (some v) → σ[i]? = some (some v)) : Inv X pins σ' H s :=
  ⟨I.ok, I.os, I.bare, I.base, let ⟨m, hn, hl'⟩ := I.loc; ⟨m, hn, fun i x v e1 e2 e3 => hl' i x v e1 (w i v e2) e3⟩, I.cell, I.free, I.freeC, I.pin, I.hok, hl.trans I.len⟩
theorem Inv.pins_of {pins' : List (Addr × Obj)} (I : Inv X pins σ H s) (h : ∀ p ∈ pins', s.heap.get? p.1 = some p.2 ∧ H p.1 = none ∧ p.1 ≠ X.env.locals ∧ p.1 ∉ X.fs ∧ ∀ v, p.2.data ≠ .cell v) : Inv X pins' σ H s :=
  ⟨I.ok, I.os, I.bare, I.base, I.loc, I.cell, I.free, I.freeC, fun p hp => (List.mem_append.mp hp).elim (fun z => I.pin p (List.mem_append_left _ z)) (h p), I.hok, I.len⟩
theorem nodup_ix {N : List Str} (hN : N.Nodup) {i j : Nat} {x : Str} (a : N[i]? = some x) (b : N[j]? = some x) : i = j := by
  obtain ⟨h1, e1⟩ := List.getElem?_eq_some_iff.mp a
  obtain ⟨h2, e2⟩ := List.getElem?_eq_some_iff.mp b
  exact (List.getElem_inj hN).mp (e1.trans e2.symm)
/-- a name is stored; what changed -/
theorem store_ok2 {M : Model} {A : Around} {E : Value → Shared → Prop} {i : Nat} {x : Str} {v : V} {u : Value} {Q : Unit → Shared → Prop} (I : Inv X pins σ H s) (hN : X.N.Nodup) (hi : X.N[i]? = some x) (hx : Loc X.env.scope x) (r : RelV v u)
    (h : ∀ s', Inv X pins (σ.set i (some v)) H s' → (∃ a, Heap.SameBut a s.heap s'.heap ∧ (a = X.env.locals ∨ X.env.cells.lookup x = some a)) → Q () s') (hf : X.fn x = true ∨ X.env.scope.names.lookup x = some .local := by first | exact .inl rfl | exact .inr rfl | assumption) : wpAny M A (storeName X.env x u) Q E s := by
  obtain ⟨m, hn, hl⟩ := id I.loc
  have hcls : (X.env.scope.kind == .class || (X.env.scope.kind == .module && X.env.locals != X.env.globals)) = false := by rw [I.ok.kind]; rfl
  have hiσ : i < σ.length := by rw [I.len]; exact (List.getElem?_eq_some_iff.mp hi).1
  have cne := I.cne
  have tracked : ∀ {a : Addr} {h' : Heap}, (∃ o, s.heap.get? a = some o ∧ H a = none) → Heap.SameBut a s.heap h' → HOk X.prog X.w H h' := fun {a h'} ha hs b ob e => by
    obtain ⟨_, _, hfree⟩ := ha
    refine (I.hok b ob e).stay (fun c w' hc q => (hs.2 c ?_).trans q) (fun _ q => q) fun _ _ q => q
    rintro rfl
    rcases hc with rfl | hc
    · rw [hfree] at e; cases e
    · rw [hfree] at hc; cases hc
  rcases hx with hk | hk
  · refine wpAny_storeName_local hk hn (fun h' hn' hs => ?_) hcls
    obtain ⟨oL, _, _, hoL, _⟩ := id hn
    refine h _ ⟨I.ok, I.os, I.bare, ⟨fun b o e n hb hx => ?_, fun b o e n hb hx => ?_, I.base.free, fun b o e hx => ?_, I.base.tups, I.base.frzs, I.base.tbls⟩, ⟨_, hn', fun j y v' e1 e2 e3 => ?_⟩, fun y c e => ?_, I.free, I.freeC, fun p hp => ?_, tracked ⟨oL, hoL, I.free⟩ hs, by simpa using I.len⟩ ⟨_, hs, .inl rfl⟩
    · exact (hs.2 b (Nat.ne_of_lt (Nat.lt_of_lt_of_le (Heap.lt_size e) I.ok.above))).trans (I.base.keep b o e n hb hx)
    · obtain ⟨sl, e1⟩ := I.base.slot b o e n hb hx
      exact ⟨sl, (hs.2 b (Nat.ne_of_lt (Nat.lt_of_lt_of_le (Heap.lt_size e) I.ok.above))).trans e1⟩
    · obtain ⟨o', e1⟩ := I.base.there b o e hx
      exact ⟨o', (hs.2 b (Nat.ne_of_lt (Nat.lt_of_lt_of_le (Heap.lt_size e) I.ok.above))).trans e1⟩
    · by_cases hj : j = i
      · subst hj
        rw [hi] at e1; cases e1
        rw [List.getElem?_set_self hiσ] at e2
        cases e2
        exact ⟨u, r, .inl ⟨hk, by simp⟩⟩
      · rw [List.getElem?_set_ne (Ne.symm hj)] at e2
        obtain ⟨u', r', q⟩ := hl j y v' e1 e2 e3
        refine ⟨u', r', ?_⟩
        rcases q with ⟨k, e⟩ | ⟨k, c, e, z⟩
        · refine .inl ⟨k, ?_⟩
          have : y ≠ x := fun e => hj (nodup_ix hN e1 (e ▸ hi))
          simp [this, e]
        · exact .inr ⟨k, c, e, z.sameBut hs (cne y c e)⟩
    · obtain ⟨w', z⟩ := I.cell y c e
      exact ⟨w', z.sameBut hs (cne y c e)⟩
    · obtain ⟨e, n, ne, nf, d⟩ := I.pin p hp
      exact ⟨(hs.2 p.1 ne).trans e, n, ne, nf, d⟩
  · have hfn : X.fn x = true := by
      rcases hf with z | z
      · exact z
      · rw [z] at hk; cases hk
    obtain ⟨c, hc⟩ := I.ok.has x (.inl hk)
    obtain ⟨w', z⟩ := I.cell x c hc
    refine wpAny_storeName_cell I.ok.kind hk hc z (fun h' hc' hs => ?_)
    obtain ⟨oc, hoc, hocd⟩ := id z
    refine h { s with heap := h' } ⟨I.ok, I.os, I.bare, ⟨fun b o e n hb hx => ?_, fun b o e n hb hx => ?_, I.base.free, fun b o e hx => ?_, I.base.tups, I.base.frzs, I.base.tbls⟩, ⟨m, hn.sameBut hs (Ne.symm (cne x c hc)), fun j y v' e1 e2 e3 => ?_⟩, fun y c' e => ?_, I.free, I.freeC, fun p hp => ?_, tracked ⟨oc, hoc, I.freeC x c hc⟩ hs, by simpa using I.len⟩ ⟨c, hs, .inr hc⟩
    · exact (hs.2 b (Nat.ne_of_lt (Nat.lt_of_lt_of_le (Heap.lt_size e) (I.ok.cab x c hfn hc)))).trans (I.base.keep b o e n hb hx)
    · obtain ⟨sl, e1⟩ := I.base.slot b o e n hb hx
      exact ⟨sl, (hs.2 b (Nat.ne_of_lt (Nat.lt_of_lt_of_le (Heap.lt_size e) (I.ok.cab x c hfn hc)))).trans e1⟩
    · obtain ⟨o', e1⟩ := I.base.there b o e hx
      exact ⟨o', (hs.2 b (Nat.ne_of_lt (Nat.lt_of_lt_of_le (Heap.lt_size e) (I.ok.cab x c hfn hc)))).trans e1⟩
    · by_cases hj : j = i
      · subst hj
        rw [hi] at e1; cases e1
        rw [List.getElem?_set_self hiσ] at e2
        cases e2
        exact ⟨u, r, .inr ⟨.inl hk, c, hc, hc'⟩⟩
      · rw [List.getElem?_set_ne (Ne.symm hj)] at e2
        obtain ⟨u', r', q⟩ := hl j y v' e1 e2 e3
        refine ⟨u', r', ?_⟩
        rcases q with q | ⟨k, c', e, z'⟩
        · exact .inl q
        · refine .inr ⟨k, c', e, z'.sameBut hs ?_⟩
          rintro rfl
          exact hj (nodup_ix hN e1 (I.ok.inj _ _ _ e hc ▸ hi))
    · by_cases hcc : c' = c
      · subst hcc; exact ⟨_, hc'⟩
      · obtain ⟨w2, z2⟩ := I.cell y c' e
        exact ⟨w2, z2.sameBut hs hcc⟩
    · obtain ⟨e, n, ne, nf, d⟩ := I.pin p hp
      refine ⟨(hs.2 p.1 ?_).trans e, n, ne, nf, d⟩
      intro q
      rw [q, hoc] at e
      have q' : oc = p.2 := Option.some.inj e
      exact d w' (by rw [← q']; exact hocd)
theorem store_ok {M : Model} {A : Around} {E : Value → Shared → Prop} {i : Nat} {x : Str} {v : V} {u : Value} {Q : Unit → Shared → Prop} (I : Inv X pins σ H s) (hN : X.N.Nodup) (hi : X.N[i]? = some x) (hx : Loc X.env.scope x) (r : RelV v u)
    (h : ∀ s', Inv X pins (σ.set i (some v)) H s' → Q () s') (hf : X.fn x = true ∨ X.env.scope.names.lookup x = some .local := by first | exact .inl rfl | exact .inr rfl | assumption) : wpAny M A (storeName X.env x u) Q E s :=
  store_ok2 I hN hi hx r (fun s' I' _ => h s' I') hf
/-- behind a call or a block, the state as it is -/
theorem Inv.call' {s' : Shared} {ch : List Addr} (I : Inv X pins σ H s) (ho : s'.os = s.os) (u : Un (frs X.stack) ch H H' s.heap s'.heap) (hok : HOk X.prog X.w H' s'.heap) (hg : AllBare s'.gens)
    (hch : ∀ b ∈ ch, (b ∈ X.ex ∨ X.s₀.heap.objs.size ≤ b) ∧ b ≠ X.env.locals ∧ (∀ x c, X.env.cells.lookup x = some c → c ≠ b) ∧ ∀ p ∈ X.pn ++ pins, p.1 ≠ b) : Inv X pins σ H' s' := by
  obtain ⟨h', g', d', t', o'⟩ := s'
  have e : o' = s.os := ho
  subst e
  exact I.call (g' := g') (t' := t') (d' := d') u hok hg hch
end
/-- an exception: its class, its own dict's address (where it has one), the abstract heap behind it -/
abbrev XK := Value → Option Addr → Hp → Prop
abbrev St := List (Option V)
abbrev VK := V → Hp → Prop
/-- an expression's reading; a test's; an argument list's -/
abbrev TE := St → Hp → VK → Prop
abbrev TT := St → Hp → (Bool → Hp → Prop) → Prop
abbrev TA := St → Hp → (List V → Hp → Prop) → Prop
/-- what is wanted behind a statement -/
structure Ends where
  nx : St → Hp → Prop
  rt : VK
  bk : St → Hp → Prop := fun _ _ => False
  ct : St → Hp → Prop := fun _ _ => False
abbrev TS := Ends → St → Hp → Prop
def EP (X : Cx) (pins : List (Addr × Obj)) (σ : St) (Q : VK) (u : Value) (s' : Shared) : Prop := ∃ v H', Inv X pins σ H' s' ∧ RelV v u ∧ Q v H'
def TP (X : Cx) (pins : List (Addr × Obj)) (σ : St) (Q : Bool → Hp → Prop) (b : Bool) (s' : Shared) : Prop := ∃ H', Inv X pins σ H' s' ∧ Q b H'
def AP (X : Cx) (pins : List (Addr × Obj)) (σ : St) (Q : List V → Hp → Prop) (us : List Value) (s' : Shared) : Prop := ∃ vs H', Inv X pins σ H' s' ∧ Vals vs us ∧ Q vs H'
def SP (X : Cx) (pins : List (Addr × Obj)) (D : Ends) (f : Flow) (s' : Shared) : Prop :=
  match f with
  | .next => ∃ σ' H', Inv X pins σ' H' s' ∧ D.nx σ' H'
  | .brk => ∃ σ' H', Inv X pins σ' H' s' ∧ D.bk σ' H'
  | .cont => ∃ σ' H', Inv X pins σ' H' s' ∧ D.ct σ' H'
  | .ret u => ∃ v σ' H', Inv X pins σ' H' s' ∧ RelV v u ∧ D.rt v H'
def PE (X : Cx) (e : Expr) (t : TE) : Prop :=
  ∀ (pins : List (Addr × Obj)) (s : Shared) (σ : St) (H : Hp) (Q : VK), Inv X pins σ H s → t σ H Q → wpAny (model X.prog X.w) X.A (eval e X.env) (EP X pins σ Q) X.xe s
def PT (X : Cx) (e : Expr) (t : TT) : Prop :=
  ∀ (pins : List (Addr × Obj)) (s : Shared) (σ : St) (H : Hp) (Q : Bool → Hp → Prop), Inv X pins σ H s → t σ H Q → wpAny (model X.prog X.w) X.A (isTrue e X.env (eval e X.env)) (TP X pins σ Q) X.xe s
/-- a test whatever its 'whole' is (and, or) -/
def PW (X : Cx) (e : Expr) (t : TT) : Prop :=
  ∀ (whole : Sem Value) (pins : List (Addr × Obj)) (s : Shared) (σ : St) (H : Hp) (Q : Bool → Hp → Prop), Inv X pins σ H s → t σ H Q → wpAny (model X.prog X.w) X.A (isTrue e X.env whole) (TP X pins σ Q) X.xe s
theorem PW.pt {X : Cx} {e : Expr} {t : TT} (h : PW X e t) : PT X e t := h _
/-- an argument list (no star), from the left -/
def PA (X : Cx) (es : List Expr) (t : TA) : Prop :=
  ∀ (pos : Pos) (pins : List (Addr × Obj)) (s : Shared) (σ : St) (H : Hp) (Q : List V → Hp → Prop), Inv X pins σ H s → t σ H Q → wpAny (model X.prog X.w) X.A (spliced (backTo pos (starEach es X.env))) (AP X pins σ Q) X.xe s
def PS (X : Cx) (st : Stmt) (t : TS) : Prop :=
  ∀ (pins : List (Addr × Obj)) (s : Shared) (σ : St) (H : Hp) (D : Ends), Inv X pins σ H s → t D σ H → wpAny (model X.prog X.w) X.A (exec st X.env) (SP X pins D) X.xe s
def PSs (X : Cx) (st : List Stmt) (t : TS) : Prop :=
  ∀ (pins : List (Addr × Obj)) (s : Shared) (σ : St) (H : Hp) (D : Ends), Inv X pins σ H s → t D σ H → wpAny (model X.prog X.w) X.A (execs st X.env) (SP X pins D) X.xe s
/-- weaken the end -/
theorem thn {α : Type} {t : Sem α} {Q Q' : α → Shared → Prop} {M : Model} {A : Around} {E : Value → Shared → Prop} {s : Shared} (h : wpAny M A t Q E s) (hQ : ∀ a s, Q a s → Q' a s) : wpAny M A t Q' E s := wpAny_mono h hQ fun _ _ x => x
end L2
namespace L2
open PySem PySem.Spec PyProof.Rows
section
variable {X : Cx}
def tVar (i : Nat) : TE := fun σ H Q => ∃ v, σ[i]? = some (some v) ∧ Q v H
def tC (v : V) : TE := fun _ H Q => Q v H
theorem pe_var {i : Nat} {x : Str} {pos : Pos} (hN : X.N[i]? = some x) (hv : Vis X.env.scope x) (hd : (x == ("__debug__" : Str)) = false := by decide) (hcd : (x == ("__classdict__" : Str)) = false := by decide) : PE X (.Name x pos) (tVar i) := by
  intro pins s σ H Q I h
  obtain ⟨v, e, h⟩ := h
  obtain ⟨m, hn, hl⟩ := I.loc
  obtain ⟨u, r, l⟩ := hl i x v hN e hv
  have fin : EP X pins σ Q u s := ⟨v, H, I, r, h⟩
  rcases l with ⟨hk, hm⟩ | ⟨hk, c, hc, hcell⟩
  · exact wpAny_Name (wpAny_loadName_local I.ok.kind hk hn hm fin) hd
  · rcases hk with hk | hk
    · exact wpAny_Name (wpAny_loadName_cell I.ok.kind hk hc hcell fin) hd
    · exact wpAny_Name (wpAny_loadName_free I.ok.kind hk hc hcell fin hcd) hd
theorem pe_int {i j pos} : PE X (.Constant (.int i) j pos) (tC (.int i)) := fun _ _ _ H _ I h => wpAny_Constant_int ⟨.int i, H, I.tok _, ⟨_, rfl⟩, h⟩
theorem pe_bl {b j pos} : PE X (.Constant (.bool b) j pos) (tC (.bl b)) := fun _ _ _ H _ I h => Constant_bool ⟨.bl b, H, I, rfl, h⟩
theorem pe_non {j pos} : PE X (.Constant .none j pos) (tC .non) := fun _ _ _ H _ I h => Constant_none ⟨.non, H, I, rfl, h⟩
theorem pe_str {x j pos} : PE X (.Constant (.str x) j pos) (tC (.str x)) := fun _ _ _ H _ I h => Calls.Constant_str ⟨.str x, H, I.tok _, ⟨_, rfl⟩, h⟩
/-- a global name of the def -/
def Gl (X : Cx) (x : Str) : Prop := X.env.kindOf x = some .globalImplicit
theorem ld_glob {E : Value → Shared → Prop} {pins : List (Addr × Obj)} {s : Shared} {σ : St} {H : Hp} {x : Str} {u : Value} {pos : Pos} {Q : Value → Shared → Prop} (I : Inv X pins σ H s) (hg : Gl X x) (hm : X.mg x = some u) (h : Q u s)
    (hd : (x == ("__debug__" : Str)) = false := by decide) : wpAny (model X.prog X.w) X.A (eval (.Name x pos) X.env) Q E s :=
  Calls.Name_function_global I.ok.kind hg (Calls.loadGlobal_global (by rw [I.ok.glob]; exact I.mod.glob.keeps I.bk) hm h) hd
theorem ld_blt {E : Value → Shared → Prop} {pins : List (Addr × Obj)} {s : Shared} {σ : St} {H : Hp} {x : Str} {u : Value} {pos : Pos} {Q : Value → Shared → Prop} (I : Inv X pins σ H s) (hg : Gl X x) (hm : X.mg x = none) (hv : bootBuiltins x = some u) (h : Q u s)
    (hn : x ≠ "__name__" := by decide) (hd : (x == ("__debug__" : Str)) = false := by decide) : wpAny (model X.prog X.w) X.A (eval (.Name x pos) X.env) Q E s := by
  obtain ⟨mb, h1, h2⟩ := I.mod.blt
  exact Calls.Name_function_global I.ok.kind hg (Calls.loadGlobal_builtin (by rw [I.ok.glob]; exact I.mod.glob.keeps I.bk) hm (by rw [I.ok.blt]; exact h1.keeps I.bk) ((h2 x hn).trans hv) h) hd
/-- a module's constant, a class, a function, as a value -/
theorem pe_glob {x : Str} {v : V} {u : Value} {pos : Pos} (hg : Gl X x) (hm : X.mg x = some u) (r : RelV v u) (hd : (x == ("__debug__" : Str)) = false := by decide) : PE X (.Name x pos) (tC v) :=
  fun _ _ _ H _ I h => ld_glob I hg hm ⟨v, H, I, r, h⟩ hd
theorem pe_bltn {x : Str} {v : V} {u : Value} {pos : Pos} (hg : Gl X x) (hm : X.mg x = none) (hv : bootBuiltins x = some u) (r : RelV v u) (hn : x ≠ "__name__" := by decide) (hd : (x == ("__debug__" : Str)) = false := by decide) : PE X (.Name x pos) (tC v) :=
  fun _ _ _ H _ I h => ld_blt I hg hm hv ⟨v, H, I, r, h⟩ hn hd
variable {a b : Expr} {ta tb : TE} {pos : Pos}
/-- a comparison as a value, as a test -/
def tB (t : TE) : TT := fun σ H Q => t σ H fun x H1 => ∃ c, x = .bl c ∧ Q c H1
/-- an expression whose value is a bool, as a test -/
theorem pt_val {e : Expr} {t : TE} (h : PE X e t) (he : ∀ whole, isTrue e X.env whole = (do let v ← whole; standAt e.pos; holding [v] (truthy v)) := by intro _; rfl) : PT X e (tB t) := by
  intro pins s σ H Q I hw
  refine isTrue_plain (thn (h pins s σ H _ I hw) fun v s1 ⟨x, H1, I1, r1, q1⟩ => ?_) (he _)
  obtain ⟨d, rfl, q⟩ := q1
  cases r1
  exact wpAny_truthy_bool ⟨H1, I1, q⟩
variable {tA tB' : TT} {rest : List Expr}
def tAnd (t u : TT) : TT := fun σ H Q => t σ H fun c H1 => if c = true then u σ H1 Q else Q false H1
def tOr (t u : TT) : TT := fun σ H Q => t σ H fun c H1 => if c = true then Q true H1 else u σ H1 Q
def tNot (t : TT) : TT := fun σ H Q => t σ H fun c H1 => Q (!c) H1
theorem pw_and1 (ha : PT X a tA) : PW X (.BoolOp .And [a] pos) tA := by
  intro wh pins s σ H Q I h
  refine isTrue_and (thn (ha pins s σ H Q I h) fun c s1 e => ?_)
  cases c with
  | true => exact isTrue_and_nil e
  | false => exact e
theorem pw_or1 (ha : PT X a tA) : PW X (.BoolOp .Or [a] pos) tA := by
  intro wh pins s σ H Q I h
  refine isTrue_or (thn (ha pins s σ H Q I h) fun c s1 e => ?_)
  cases c with
  | false => exact isTrue_or_nil e
  | true => exact e
theorem pw_and (ha : PT X a tA) (hb : PW X (.BoolOp .And (b :: rest) pos) tB') : PW X (.BoolOp .And (a :: b :: rest) pos) (tAnd tA tB') := by
  intro wh pins s σ H Q I h
  refine isTrue_and (thn (ha pins s σ H _ I h) fun c s1 ⟨H1, I1, q1⟩ => ?_)
  cases c with
  | true => exact hb wh pins s1 σ H1 Q I1 q1
  | false => exact ⟨H1, I1, q1⟩
theorem pw_or (ha : PT X a tA) (hb : PW X (.BoolOp .Or (b :: rest) pos) tB') : PW X (.BoolOp .Or (a :: b :: rest) pos) (tOr tA tB') := by
  intro wh pins s σ H Q I h
  refine isTrue_or (thn (ha pins s σ H _ I h) fun c s1 ⟨H1, I1, q1⟩ => ?_)
  cases c with
  | true => exact ⟨H1, I1, q1⟩
  | false => exact hb wh pins s1 σ H1 Q I1 q1
theorem pt_not (ha : PT X a tA) : PT X (.UnaryOp .Not a pos) (tNot tA) := by
  intro pins s σ H Q I h
  exact isTrue_not (ha pins s σ H (fun c H1 => Q (!c) H1) I h)
/-- .. as values (bools) -/
def tAndV (ta tb : TE) : TE := fun σ H Q => ta σ H fun x H1 => ∃ c, x = .bl c ∧ if c = true then tb σ H1 Q else Q (.bl false) H1
def tNotV (ta : TE) : TE := fun σ H Q => ta σ H fun x H1 => ∃ c, x = .bl c ∧ Q (.bl (!c)) H1
theorem pe_one {op} {t : TE} (h : PE X a t) : PE X (.BoolOp op [a] pos) t := fun pins s σ H Q I hw => BoolOp_one (h pins s σ H Q I hw)
theorem pe_and (ha : PE X a ta) (hb : PE X (.BoolOp .And (b :: rest) pos) tb) : PE X (.BoolOp .And (a :: b :: rest) pos) (tAndV ta tb) := by
  intro pins s σ H Q I h
  refine BoolOp_and (thn (ha pins s σ H _ I h) fun v s1 ⟨x, H1, I1, r1, q1⟩ => ?_)
  obtain ⟨c, rfl, q1⟩ := q1
  cases r1
  refine wpAny_truthy_bool ?_
  cases c with
  | true => exact hb pins s1 σ H1 Q I1 q1
  | false => exact ⟨.bl false, H1, I1, rfl, q1⟩
theorem pe_not (ha : PE X a ta) : PE X (.UnaryOp .Not a pos) (tNotV ta) := by
  intro pins s σ H Q I h
  refine UnaryOp_ (thn (ha pins s σ H _ I h) fun v s1 ⟨x, H1, I1, r1, q1⟩ => ?_)
  obtain ⟨c, rfl, q1⟩ := q1
  cases r1
  exact not_of (wpAny_truthy_bool ⟨.bl (!c), H1, I1, rfl, q1⟩)
end
end L2
namespace L2
open PySem PySem.Spec PyProof.Rows
def SqL (K : PySem.W.Frag) (H : Hp) (a : Addr) (xs : List V) : Prop :=
  Rd H a (.lst xs) ∨
    ∃ (o : Obj) (its : Array Value) (n : Nat), K.lookup a = some o ∧ o.cls = .type "list" ∧ o.dict = none ∧ o.data = .seq its n ∧ its.size ≤ sizeLine ∧ Vals xs its.toList
def SqT (K : PySem.W.Frag) (H : Hp) (a : Addr) (xs : List V) : Prop :=
  Rd H a (.tup xs) ∨
    ∃ (o : Obj) (its : Array Value) (n : Nat), K.lookup a = some o ∧ o.cls = .type "tuple" ∧ o.data = .seq its n ∧ its.size ≤ sizeLine ∧ Vals xs its.toList
def absV : Value → Option V
  | .none => some .non
  | .bool b => some (.bl b)
  | .int i _ => some (.int i)
  | .str x _ => some (.str x)
  | .bytes b _ => some (.byt b)
  | .float b _ => some (.flt b)
  | .ref a => some (.ref a)
  | .type n => some (.ty n)
  | _ => none
theorem RelV.abs {x : V} {u : Value} (r : RelV x u) : absV u = some x := by
  cases x with
  | non => cases r; rfl
  | bl _ => cases r; rfl
  | int _ => obtain ⟨t, rfl⟩ := r; rfl
  | str _ => obtain ⟨t, rfl⟩ := r; rfl
  | byt _ => obtain ⟨t, rfl⟩ := r; rfl
  | flt _ => obtain ⟨t, rfl⟩ := r; rfl
  | ref _ => cases r; rfl
  | ty _ => cases r; rfl
theorem RelV.inj {x y : V} {u : Value} (r : RelV x u) (q : RelV y u) : x = y := Option.some.inj (r.abs.symm.trans q.abs)
theorem Vals.inj : ∀ {xs ys : List V} {us : List Value}, Vals xs us → Vals ys us → xs = ys
  | _, _, _, .nil, .nil => rfl
  | _, _, _, .cons r t, .cons r' t' => by rw [r.inj r', Vals.inj t t']
section
variable {X : Cx} {pins : List (Addr × Obj)} {σ : St} {H : Hp} {s : Shared} {a : Addr} {xs ys : List V}
theorem SqL.of {K : PySem.W.Frag} (h : H a = some (.lst xs)) : SqL K H a xs := .inl (.inl h)
theorem SqT.of {K : PySem.W.Frag} (h : H a = some (.tup xs)) : SqT K H a xs := .inl (.inl h)
theorem Inv.list (I : Inv X pins σ H s) (h : SqL X.K H a xs) : ∃ its : List Value, Vals xs its ∧ PlainL s.heap a its.toArray ∧ xs.length ≤ sizeLine := by
  rcases h with h | ⟨o, its, n, hk, hc, hd, hs, hz, r⟩
  · obtain ⟨z, its, n, r, e⟩ := h.ok I.hok
    exact ⟨its, r, ⟨_, n, e, rfl, rfl, rfl⟩, z⟩
  · refine ⟨its.toList, r, ⟨o, n, I.kIn a o hk, hc, hd, by simpa using hs⟩, ?_⟩
    have e := r.length
    simp only [Array.length_toList] at e
    omega
theorem Inv.tuple (I : Inv X pins σ H s) (h : SqT X.K H a xs) : ∃ its : List Value, Vals xs its ∧ IsTup s.heap a its.toArray ∧ xs.length ≤ sizeLine := by
  rcases h with h | ⟨o, its, n, hk, hc, hs, hz, r⟩
  · obtain ⟨z, its, r, p⟩ := h.ok I.hok
    exact ⟨its, r, p, z⟩
  · refine ⟨its.toList, r, ⟨o, I.kIn a o hk, hc, n, by simpa using hs⟩, ?_⟩
    have e := r.length
    simp only [Array.length_toList] at e
    omega
theorem Inv.list_inj (I : Inv X pins σ H s) (h : SqL X.K H a xs) (h' : SqL X.K H a ys) : xs = ys := by
  obtain ⟨its, r, ⟨o, n, e, _, _, d⟩, _⟩ := I.list h
  obtain ⟨its', r', ⟨o', n', e', _, _, d'⟩, _⟩ := I.list h'
  rw [e] at e'; cases e'
  rw [d] at d'
  injection d' with d1 _
  have : its = its' := by simpa using congrArg Array.toList d1
  subst this
  exact r.inj r'
end
abbrev Cx.wish (X : Cx) (E : Value → Shared → Prop) : Cx := { X with xe := E }
/-- no exception leaves -/
abbrev Cx.nox (X : Cx) : Cx := X.wish fun _ _ => False
theorem Cx.Ok.wish {X : Cx} (ok : X.Ok) (E : Value → Shared → Prop) : (X.wish E).Ok :=
  ⟨ok.mod, ok.kind, ok.glob, ok.blt, ok.above, ok.inj, ok.has, ok.cab, ok.hd, ok.frames, ok.stk, ok.exf, ok.bs, ok.bsz, ok.noex, ok.exfs, ok.funs, ok.frf⟩
theorem Cx.Ok.unwish {X : Cx} {E : Value → Shared → Prop} (ok : (X.wish E).Ok) : X.Ok :=
  ⟨ok.mod, ok.kind, ok.glob, ok.blt, ok.above, ok.inj, ok.has, ok.cab, ok.hd, ok.frames, ok.stk, ok.exf, ok.bs, ok.bsz, ok.noex, ok.exfs, ok.funs, ok.frf⟩
section
variable {X : Cx} {pins : List (Addr × Obj)} {σ : St} {H : Hp} {s : Shared} {E : Value → Shared → Prop}
theorem Inv.wish (I : Inv X pins σ H s) (E : Value → Shared → Prop) : Inv (X.wish E) pins σ H s := ⟨I.ok.wish E, I.os, I.bare, I.base, I.loc, I.cell, I.free, I.freeC, I.pin, I.hok, I.len⟩
theorem Inv.unwish (I : Inv (X.wish E) pins σ H s) : Inv X pins σ H s := ⟨I.ok.unwish, I.os, I.bare, I.base, I.loc, I.cell, I.free, I.freeC, I.pin, I.hok, I.len⟩
theorem SP.unwish {D : Ends} {f : Flow} {s' : Shared} (h : SP (X.wish E) pins D f s') : SP X pins D f s' := by
  cases f with
  | next => obtain ⟨σ', H', I, q⟩ := h; exact ⟨σ', H', I.unwish, q⟩
  | brk => obtain ⟨σ', H', I, q⟩ := h; exact ⟨σ', H', I.unwish, q⟩
  | cont => obtain ⟨σ', H', I, q⟩ := h; exact ⟨σ', H', I.unwish, q⟩
  | ret u => obtain ⟨v, σ', H', I, r, q⟩ := h; exact ⟨v, σ', H', I.unwish, r, q⟩
theorem PE.nox {e : Expr} {t : TE} (h : PE X.nox e t) : PE X e t := fun pins s σ H Q I hw =>
  wpAny_mono (h pins s σ H Q (I.wish _) hw) (fun _ _ ⟨v, H', I', r, q⟩ => ⟨v, H', I'.unwish, r, q⟩) fun _ _ z => False.elim z
theorem PSs.nox {st : List Stmt} {t : TS} (h : PSs X.nox st t) : PSs X st t := fun pins s σ H D I hw =>
  wpAny_mono (h pins s σ H D (I.wish _) hw) (fun _ _ q => q.unwish) fun _ _ z => False.elim z
end
section
variable {X : Cx} {st : Stmt} {rest : List Stmt} {t u : TS} {e : Expr} {te : TE} {pos : Pos}
def tNext : TS := fun D σ H => D.nx σ H
def tSeq (t u : TS) : TS := fun D σ H => t { D with nx := u D } σ H
theorem pss_nil : PSs X [] tNext := fun _ _ σ H _ I h => wpAny_execs_nil ⟨σ, H, I, h⟩
theorem pss_cons (h1 : PS X st t) (h2 : PSs X rest u) : PSs X (st :: rest) (tSeq t u) := by
  intro pins s σ H D I h
  refine wpAny_execs_cons (thn (h1 pins s σ H { D with nx := u D } I h) fun f s1 q => ?_)
  cases f with
  | next =>
    obtain ⟨σ', H', I', q⟩ := q
    exact h2 pins s1 σ' H' D I' q
  | ret v => exact q
  | brk => exact q
  | cont => exact q
theorem pss_one (h1 : PS X st t) : PSs X [st] t := by
  intro pins s σ H D I h
  refine wpAny_execs_cons (thn (h1 pins s σ H D I h) fun f s1 q => ?_)
  cases f with
  | next => exact wpAny_execs_nil q
  | ret v => exact q
  | brk => exact q
  | cont => exact q
/-- in a def's body nothing is shown -/
theorem Inv.quiet {pins : List (Addr × Obj)} {σ : St} {H : Hp} {s : Shared} (I : Inv X pins σ H s) : interactive X.env = false := by simp [interactive, I.ok.kind]
/-- an expression whose value is dropped -/
def tDrop (te : TE) : TS := fun D σ H => te σ H fun _ H1 => D.nx σ H1
theorem ps_expr (he : PE X e te) (hs : swapsWith e none pos.line X.env = pure false := by rfl) : PS X (.Expr e pos) (tDrop te) := by
  intro pins s σ H D I h
  exact wpAny_Expr_any (thn (he pins s σ H _ I h) fun v s1 ⟨x, H1, I1, r1, q1⟩ => ⟨σ, H1, I1, q1⟩) I.quiet hs
def tRet (te : TE) : TS := fun D σ H => te σ H D.rt
theorem ps_ret (he : PE X e te) : PS X (.Return (some e) pos) (tRet te) := by
  intro pins s σ H D I h
  exact wpAny_Return_some (thn (he pins s σ H _ I h) fun v s1 ⟨x, H1, I1, r1, q1⟩ => ⟨x, σ, H1, I1, r1, q1⟩)
def tIfS (c : TT) (t u : TS) : TS := fun D σ H => c σ H fun b H1 => if b = true then t D σ H1 else u D σ H1
theorem ps_if {c : Expr} {a b : List Stmt} {tc : TT} (hc : PT X c tc) (ha : PSs X a t) (hb : PSs X b u) : PS X (.If c a b pos) (tIfS tc t u) := by
  intro pins s σ H D I h
  refine wpAny_If (thn (hc pins s σ H _ I h) fun d s1 ⟨H1, I1, q1⟩ => ?_)
  cases d with
  | true => exact ha pins s1 σ H1 D I1 q1
  | false => exact hb pins s1 σ H1 D I1 q1
/-- code that the proof never comes to -/
def tNever : TS := fun _ _ _ => False
theorem ps_never : PS X st tNever := fun _ _ _ _ _ _ h => h.elim
end
abbrev TG := V → St → Hp → (St → Hp → Prop) → Prop
abbrev TGs := List V → St → Hp → (St → Hp → Prop) → Prop
def PG (X : Cx) (target : Expr) (t : TG) : Prop :=
  ∀ (pins : List (Addr × Obj)) (s : Shared) (σ : St) (H : Hp) (v : V) (u : Value) (Q : St → Hp → Prop), Inv X pins σ H s → RelV v u → t v σ H Q →
    wpAny (model X.prog X.w) X.A (assign target X.env u) (fun _ s' => ∃ σ' H', Inv X pins σ' H' s' ∧ Q σ' H') X.xe s
/-- several targets, one after another -/
def PGs (X : Cx) (ts : List Expr) (t : TGs) : Prop :=
  ∀ (pins : List (Addr × Obj)) (s : Shared) (σ : St) (H : Hp) (vs : List V) (us : List Value) (Q : St → Hp → Prop), Inv X pins σ H s → Vals vs us → t vs σ H Q →
    wpAny (model X.prog X.w) X.A (assignInOrder ((assignEach ts X.env).map (·.2)) us) (fun _ s' => ∃ σ' H', Inv X pins σ' H' s' ∧ Q σ' H') X.xe s
section
variable {X : Cx} {pos : Pos}
def gName (i : Nat) : TG := fun v σ H Q => Q (σ.set i (some v)) H
theorem pg_name {i : Nat} {x : Str} (hN : X.N.Nodup) (hi : X.N[i]? = some x) (hx : Loc X.env.scope x) (hf : X.fn x = true ∨ X.env.scope.names.lookup x = some .local := by first | exact .inl rfl | exact .inr rfl | assumption) : PG X (.Name x pos) (gName i) := by
  intro pins s σ H v u Q I r h
  exact wpAny_assign_Name (store_ok I hN hi hx r (fun s' I' => ⟨_, H, I', h⟩) hf)
def gNil : TGs := fun vs σ H Q => vs = [] ∧ Q σ H
def gCons (t : TG) (u : TGs) : TGs := fun vs σ H Q => ∃ v r, vs = v :: r ∧ t v σ H fun σ' H' => u r σ' H' Q
theorem pgs_nil : PGs X [] gNil := by
  intro pins s σ H vs us Q I r h
  obtain ⟨e, h⟩ := h
  subst e
  cases r
  exact assignInOrder_nil ⟨σ, H, I, h⟩
theorem pgs_cons {e : Expr} {es : List Expr} {t : TG} {u : TGs} (h1 : PG X e t) (h2 : PGs X es u)
    (hs : (assignEach (e :: es) X.env).map (·.2) = assign e X.env :: (assignEach es X.env).map (·.2) := by rfl) : PGs X (e :: es) (gCons t u) := by
  intro pins s σ H vs us Q I r h
  obtain ⟨v, vr, e1, h⟩ := h
  subst e1
  cases r with
  | cons r rr =>
    rw [hs]
    refine assignInOrder_cons (thn (h1 pins s σ H _ _ _ I r h) fun _ s1 ⟨σ1, H1, I1, q1⟩ => ?_)
    exact h2 pins s1 σ1 H1 _ _ Q I1 rr q1
/-- (a, b, ..) = a tuple of that length -/
def gTup (K : PySem.W.Frag) (n : Nat) (t : TGs) : TG := fun v σ H Q => ∃ a xs, v = .ref a ∧ SqT K H a xs ∧ xs.length = n ∧ t xs σ H Q
theorem pg_tup {es : List Expr} {k : Nat} {t : TGs} {n : Nat} (hc : X.calm = true) (h : PGs X es t)
    (hn : (assignEach es X.env).length = n := by rfl) (hst : (assignEach es X.env).findIdx? (·.1) = none := by rfl) : PG X (.Tuple es k pos) (gTup X.K n t) := by
  intro pins s σ H v u Q I r hw
  obtain ⟨a, xs, e1, hq, hl, hw⟩ := hw
  subst e1
  cases r
  obtain ⟨its, rv, ht, hz⟩ := I.tuple hq
  refine assign_Tuple_tuple (I.ok.hd hc) ht (by simp [hn, ← hl, rv.length]) hst fun h' hx => ?_
  have I1 : Inv X pins σ H { s with heap := h' } := I.kept (t' := s.toks) fun b o e => hx b o (Nat.ne_of_lt (Heap.lt_size e)) e
  exact h pins _ σ H xs _ Q I1 (by simpa using rv) hw
/-- target = value -/
def tAsg (te : TE) (g : TG) : TS := fun D σ H => te σ H fun x H1 => g x σ H1 D.nx
/-- name = value -/
theorem ps_set {i : Nat} {x : Str} {e : Expr} {te : TE} {pos' : Pos} (hN : X.N.Nodup) (hi : X.N[i]? = some x) (hx : Loc X.env.scope x) (he : PE X e te) (hs : swapsWith e (some (.Name x pos')) pos.line X.env = pure false := by rfl) (hf : X.fn x = true ∨ X.env.scope.names.lookup x = some .local := by first | exact .inl rfl | exact .inr rfl | assumption) :
    PS X (.Assign [.Name x pos'] e pos) (tAsg te (gName i)) := by
  intro pins s σ H D I h
  refine wpAny_Assign_Name (thn (he pins s σ H _ I h) fun v s1 ⟨y, H1, I1, r1, q1⟩ => ?_) hs
  exact store_ok I1 hN hi hx r1 (fun s2 I2 => ⟨_, H1, I2, q1⟩) hf
end
section
variable {X : Cx} {pos : Pos}
/-- the invariant W with its measure -/
def tWhile (c : TT) (tb : TS) : TS := fun D σ H => ∃ W : Nat → St → Hp → Prop, (∃ m, W m σ H) ∧ ∀ m σ H, W m σ H →
  c σ H fun b H1 => if b = true then ∃ N : St → Hp → Prop, (∀ σ' H', N σ' H' → ∃ m', m' < m ∧ W m' σ' H') ∧ tb { D with nx := N, ct := N, bk := D.nx } σ H1 else D.nx σ H1
theorem ps_while {c : Expr} {body : List Stmt} {tc : TT} {tb : TS} (hp : PassesOwn (model X.prog X.w) X.A X.env X.xe) (hc : PT X c tc) (hb : PSs X body tb) : PS X (.While c body [] pos) (tWhile tc tb) := by
  intro pins s σ H D I h
  obtain ⟨W, ⟨m0, w0⟩, turn⟩ := h
  refine wpAny_While (codeAny_whileLoop (fun n s' => ∃ σ' H', Inv X pins σ' H' s' ∧ W n σ' H') ?_ m0 ⟨σ, H, I, w0⟩)
  rintro n s1 ⟨σ1, H1, I1, w1⟩
  refine wpAny_passesOwn hp (thn (hc pins s1 σ1 H1 _ I1 (turn n σ1 H1 w1)) fun b s2 ⟨H2, I2, q2⟩ => ?_)
  cases b with
  | true =>
    obtain ⟨N, hN, q2⟩ := q2
    rw [if_pos rfl]
    refine wpAny_passesOwn hp (thn (hb pins s2 σ1 H2 _ I2 q2) fun f s3 q3 => ?_)
    cases f with
    | next =>
      obtain ⟨σ3, H3, I3, n3⟩ := q3
      obtain ⟨m', hm, w3⟩ := hN σ3 H3 n3
      exact ⟨m', hm, σ3, H3, I3, w3⟩
    | cont =>
      obtain ⟨σ3, H3, I3, n3⟩ := q3
      obtain ⟨m', hm, w3⟩ := hN σ3 H3 n3
      exact ⟨m', hm, σ3, H3, I3, w3⟩
    | brk => exact q3
    | ret v => exact q3
  | false =>
    rw [if_neg Bool.false_ne_true]
    exact wpAny_execs_nil ⟨σ1, H2, I2, q2⟩
end
/-- at turn i: it yields x (the heap may grow), or it stops -/
structure It where
  go : Nat → Hp → Prop
  yld : Nat → Hp → V → Hp → Prop
  stop : Nat → Hp → Prop
/-- the iterator's own objects may turn: they are not the frame's, not pinned, younger than the entry (or a comprehension's own) -/
def FpOk (X : Cx) (pins : List (Addr × Obj)) (H : Hp) (b : Addr) : Prop :=
  H b = none ∧ b ≠ X.env.locals ∧ b ∉ X.fs ∧ (b ∈ X.ex ∨ X.s₀.heap.objs.size ≤ b) ∧ (∀ x c, X.env.cells.lookup x = some c → c ≠ b) ∧ ∀ p ∈ X.pn ++ pins, p.1 ≠ b
theorem Inv.fpOk {X : Cx} {pins : List (Addr × Obj)} {σ : St} {H H' : Hp} {s : Shared} {b : Addr} (I : Inv X pins σ H s) (hb : s.heap.objs.size ≤ b) (hn : H' b = none) : FpOk X pins H' b := by
  refine ⟨hn, Nat.ne_of_gt (Nat.lt_of_lt_of_le I.lt hb), I.nofs hb, .inr (Nat.le_trans I.sz hb), fun x c e z => ?_, fun p hp z => ?_⟩
  · obtain ⟨v, q⟩ := I.cell x c e
    exact absurd (Nat.lt_of_lt_of_le q.lt (by rw [z]; exact hb)) (Nat.lt_irrefl _)
  · exact absurd (Nat.lt_of_lt_of_le (Heap.lt_size (I.pin p hp).1) (by rw [z]; exact hb)) (Nat.lt_irrefl _)
structure Turn (P : Program) (w : World) (K : PySem.W.Frag) (tg : Expr) (J : It) (fp : List Addr) (it : Addr) (tn : Nat → Heap → Prop) : Prop where
  mem : it ∈ fp
  obj : ∀ i h, tn i h → ∀ b ∈ fp, ∃ o, h.get? b = some o ∧ ∀ v, o.data ≠ .cell v
  keep : ∀ i h h', tn i h → (∀ b ∈ fp, ∀ o, h.get? b = some o → h'.get? b = some o) → tn i h'
  item : ∀ (X : Cx), X.prog = P → X.w = w → X.K = K → X.calm = true → ∀ (i : Nat) (pins : List (Addr × Obj)) (s : Shared) (σ : St) (H : Hp) (E : Value → Shared → Prop), Inv X pins σ H s → (∀ b ∈ fp, FpOk X pins H b) → tn i s.heap → J.go i H →
    wpAny (model P w) X.A (pyNext (.ref it)) (fun r s1 => ∃ u, r = some u ∧
      wpAny (model P w) X.A (letOwnedTupleGo tg (.ref it) u) (fun _ s2 => ∃ x H', Inv X pins σ H' s2 ∧ RelV x u ∧ J.yld i H x H' ∧ tn (i + 1) s2.heap ∧ ∀ b ∈ fp, H' b = none) E s1) E s
  done : ∀ (X : Cx), X.prog = P → X.w = w → X.K = K → X.calm = true → ∀ (i : Nat) (pins : List (Addr × Obj)) (s : Shared) (σ : St) (H : Hp) (E : Value → Shared → Prop), Inv X pins σ H s → (∀ b ∈ fp, FpOk X pins H b) → tn i s.heap → J.stop i H →
    wpAny (model P w) X.A (pyNext (.ref it)) (fun r s1 => r = none ∧ Inv X pins σ H s1) E s
  self : ∀ (A : Around) (i : Nat) (s : Shared) (Q : Value → Shared → Prop) (E : Value → Shared → Prop), tn i s.heap → Q (.ref it) s → wpAny (model P w) A (pyIter (.ref it)) Q E s
abbrev TI := St → Hp → (It → Hp → Prop) → Prop
/-- an iterator has come -/
def PIE (X : Cx) (pins : List (Addr × Obj)) (σ : St) (tg : Expr) (R : It → Hp → Prop) (itv : Value) (s2 : Shared) : Prop :=
  ∃ (it : Addr) (fp : List Addr) (tn : Nat → Heap → Prop) (J : It) (H' : Hp), itv = .ref it ∧ Inv X pins σ H' s2 ∧ Turn X.prog X.w X.K tg J fp it tn ∧ tn 0 s2.heap ∧ (∀ b ∈ fp, FpOk X pins H' b) ∧ R J H'
def PI (X : Cx) (tg iter : Expr) (wi : TI) : Prop :=
  ∀ (pins : List (Addr × Obj)) (s : Shared) (σ : St) (H : Hp) (R : It → Hp → Prop), Inv X pins σ H s → wi σ H R →
    wpAny (model X.prog X.w) X.A (eval iter X.env) (fun v s1 => wpAny (model X.prog X.w) X.A (pyIter v) (PIE X pins σ tg R) X.xe s1) X.xe s
/-- the step ahead of the store is nothing for an iterator that keeps no tuple -/
theorem go_of {M : Model} {A : Around} {E : Value → Shared → Prop} {s : Shared} {tg : Expr} {it : Addr} {u : Value} {o : Obj} {n : String} {vs : Array Value} {Q : Unit → Shared → Prop} (ho : s.heap.get? it = some o) (hc : o.cls = .type n) (hd : o.data = .fields vs)
    (hn : ["enumerate", "zip", "dict_itemiterator", "dict_reverseitemiterator", "odict_iterator", "itertools.zip_longest", "itertools.pairwise"].contains n = false) (hQ : Q () s) : wpAny M A (letOwnedTupleGo tg (.ref it) u) Q E s := by
  unfold letOwnedTupleGo
  cases tg <;> first
    | exact wpAny_pure hQ
    | (cases u <;> first
        | exact wpAny_pure hQ
        | (refine wpAny_bind (wpAny_load ho ?_)
           rw [hc, hd]
           show wpAny M A (if (["enumerate", "zip", "dict_itemiterator", "dict_reverseitemiterator", "odict_iterator", "itertools.zip_longest", "itertools.pairwise"].contains n && vs[0]? == some (rawInt _)) = true then _ else _) Q E s
           rw [if_neg (by intro h; rw [hn, Bool.false_and] at h; cases h)]
           exact wpAny_pure hQ))
/-- the list at a, as it stands at each turn (a loop may append to it) -/
def Itl (K : PySem.W.Frag) (a : Addr) : It :=
  ⟨fun i H => ∃ xs x, SqL K H a xs ∧ xs[i]? = some x, fun i H x H' => H' = H ∧ ∀ xs, SqL K H a xs → xs[i]? = some x, fun i H => ∃ xs, SqL K H a xs ∧ xs.length ≤ i⟩
/-- lo, lo + 1, .. (n of them) -/
def Itr (lo : Int) (n : Nat) : It := ⟨fun i _ => i < n, fun i H x H' => H' = H ∧ x = .int (lo + i), fun i _ => n ≤ i⟩
theorem turn_list {P : Program} {w : World} {K : PySem.W.Frag} {tg : Expr} (a it : Addr) : Turn P w K tg (Itl K a) [it] it (fun i h => h.IsListIter it a i) where
  mem := by simp
  obj := fun i h st b hb => by
    have e : b = it := by simpa using hb
    subst e
    obtain ⟨o, e, c, d⟩ := st
    exact ⟨o, e, fun v z => by rw [d] at z; cases z⟩
  keep := fun i h h' st k => st.at fun o e => k it (by simp) o e
  item := by
    intro X hP hw hK hc i pins s σ H E I hf st hg
    subst hP hw hK
    obtain ⟨xs, x, hq, hx⟩ := hg
    obtain ⟨its, rv, p, hz⟩ := I.list hq
    obtain ⟨u, hu, ru⟩ := rv.get hx
    obtain ⟨f0, f1, f2, f3, f4, f5⟩ := hf it (by simp)
    refine wpAny_pyNext_list_item st p.isList (x := u) (by simpa using hu) fun h' st' sb => ?_
    have I1 : Inv X pins σ H { s with heap := h' } := I.turned (t' := s.toks) (fun b o hb e => (sb.2 b hb).trans e) f0 f1 f3 f4 f5
    obtain ⟨o, e, c, d⟩ := id st'
    exact ⟨u, rfl, go_of (s := { s with heap := h' }) e c d (by decide) ⟨x, H, I1, ru, ⟨rfl, fun ys hy => by rw [I.list_inj hy hq]; exact hx⟩, st', fun b hb => (hf b hb).1⟩⟩
  done := by
    intro X hP hw hK hc i pins s σ H E I hf st hg
    subst hP hw hK
    obtain ⟨xs, hq, hx⟩ := hg
    obtain ⟨its, rv, p, hz⟩ := I.list hq
    obtain ⟨f0, f1, f2, f3, f4, f5⟩ := hf it (by simp)
    have hl := rv.length
    exact wpAny_pyNext_list_end (I.ok.hd hc) st p.isList (by simp; omega) fun h' eb => ⟨rfl, I.turned (t' := s.toks) (fun b o hb e => eb b o hb e) f0 f1 f3 f4 f5⟩
  self := fun _ _ _ _ _ st h => wpAny_pyIter_listiter st h
theorem turn_range {P : Program} {w : World} {K : PySem.W.Frag} {tg : Expr} (it : Addr) (lo : Int) (n : Nat) : Turn P w K tg (Itr lo n) [it] it (fun i h => IsRangeIter h it (lo + (i : Nat) * 1) ((n : Int) - (i : Nat)) 1) where
  mem := by simp
  obj := fun i h st b hb => by
    have e : b = it := by simpa using hb
    subst e
    exact ⟨_, st, fun v z => by
      have z' : Data.fields _ = Data.cell v := z
      cases z'⟩
  keep := fun i h h' st k => k it (by simp) _ st
  item := by
    intro X hP hw hK hc i pins s σ H E I hf st hg
    subst hP hw hK
    obtain ⟨f0, f1, f2, f3, f4, f5⟩ := hf it (by simp)
    have W := Walks.range (prog := X.prog) (w := X.w) (I.ok.hd hc) it lo 1 n
    refine W.item i s _ _ hg st fun v h' tk hv st' kk => ?_
    obtain ⟨t, rfl⟩ := hv
    have I1 : Inv X pins σ H { s with heap := h', toks := tk } := I.turned (fun b o hb e => kk b o (by simpa using hb) e) f0 f1 f3 f4 f5
    refine ⟨_, rfl, go_of (s := { s with heap := h', toks := tk }) (n := "range_iterator") st' rfl rfl (by decide) ⟨.int (lo + i), H, I1, ⟨t, ?_⟩, ⟨rfl, rfl⟩, st', fun b hb => (hf b hb).1⟩⟩
    rw [Int.mul_one]
  done := by
    intro X hP hw hK hc i pins s σ H E I hf st hg
    subst hP hw hK
    obtain ⟨f0, f1, f2, f3, f4, f5⟩ := hf it (by simp)
    exact wpAny_pyNext_range_end (I.ok.hd hc) st (by have : n ≤ i := hg; omega) fun h' eb => ⟨rfl, I.turned (t' := s.toks) (fun b o hb e => eb b o hb e) f0 f1 f3 f4 f5⟩
  self := fun _ _ _ _ _ st h => wpAny_pyIter_rangeiter st h
end L2
namespace L2
open PySem PySem.Spec PyProof.Rows
section
variable {X : Cx} {tg : Expr}
def iList (K : PySem.W.Frag) (tl : TE) : TI := fun σ H R => tl σ H fun x H1 => ∃ a, x = .ref a ∧ (∃ xs, SqL K H1 a xs) ∧ R (Itl K a) H1
theorem pi_list {l : Expr} {tl : TE} (hl : PE X l tl) : PI X tg l (iList X.K tl) := by
  intro pins s σ H R I h
  refine thn (hl pins s σ H _ I h) fun v s1 ⟨x, H1, I1, r1, q1⟩ => ?_
  obtain ⟨a, e, ⟨xs, hq⟩, q⟩ := q1
  subst e
  cases r1
  obtain ⟨its, rv, p, hz⟩ := I1.list hq
  refine wpAny_pyIter_list p.isList ?_
  refine ⟨s1.heap.objs.size, [s1.heap.objs.size], _, _, H1, rfl, I1.kept (t' := s1.toks) fun b o e => Heap.get?_push_of_some _ e, turn_list a _, ⟨_, Heap.get?_push_size _ rfl, rfl, rfl⟩, fun b hb => ?_, q⟩
  have e : b = s1.heap.objs.size := by simpa using hb
  subst e
  exact I1.fpOk (Nat.le_refl _) (I1.hok.fresh (Nat.le_refl _))
/-- a range object just made, walked -/
theorem range_it {pins : List (Addr × Obj)} {σ : St} {H : Hp} {s : Shared} {R : It → Hp → Prop} {E : Value → Shared → Prop} {lo hi : Int} {t u v : Tok} {tk : Nat} (I : Inv X pins σ H s) (h1 : -(2 ^ 62) ≤ lo) (h2 : lo < 2 ^ 62) (h3 : -(2 ^ 62) ≤ hi) (h4 : hi < 2 ^ 62)
    (q : R (Itr lo (hi - lo).toNat) H) : wpAny (model X.prog X.w) X.A (pyIter (.ref s.heap.objs.size)) (PIE X pins σ tg R) E { s with heap := s.heap.push { cls := .type "range", data := .fields #[.int lo t, .int hi u, .int 1 v] }, toks := tk } := by
  refine wpAny_pyIter_range (IsRange.new ..) (small_one h1 h2 h3 h4) ?_
  have I1 : Inv X pins σ H { s with heap := s.heap.push { cls := .type "range", data := .fields #[.int lo t, .int hi u, .int 1 v] }, toks := tk } := I.kept fun b o e => Heap.get?_push_of_some _ e
  refine ⟨(s.heap.push { cls := .type "range", data := .fields #[.int lo t, .int hi u, .int 1 v] }).objs.size, [(s.heap.push { cls := .type "range", data := .fields #[.int lo t, .int hi u, .int 1 v] }).objs.size], _, _, H, rfl,
    I1.kept (t' := tk) fun b o e => Heap.get?_push_of_some _ e, turn_range _ lo (hi - lo).toNat, ?_, fun b hb => ?_, q⟩
  · have e1 : lo + ((0 : Nat) : Int) * 1 = lo := by simp
    have e2 : (((hi - lo).toNat : Nat) : Int) - ((0 : Nat) : Int) = Builtin.Range.rangeSize lo hi 1 := by rw [rangeSize_one]; split <;> omega
    show IsRangeIter _ _ (lo + ((0 : Nat) : Int) * 1) ((((hi - lo).toNat : Nat) : Int) - ((0 : Nat) : Int)) 1
    rw [e1, e2]
    exact Heap.get?_push_size _ rfl
  · have e : b = (s.heap.push { cls := .type "range", data := .fields #[.int lo t, .int hi u, .int 1 v] }).objs.size := by simpa using hb
    subst e
    exact I1.fpOk (Nat.le_refl _) (I1.hok.fresh (Nat.le_refl _))
def iRng1 (ta : TA) : TI := fun σ H R => ta σ H fun vs H1 => ∃ j : Int, vs = [.int j] ∧ -(2 ^ 62) ≤ j ∧ j < 2 ^ 62 ∧ R (Itr 0 j.toNat) H1
def iRng2 (ta : TA) : TI := fun σ H R => ta σ H fun vs H1 => ∃ i j : Int, vs = [.int i, .int j] ∧ (-(2 ^ 62) ≤ i ∧ i < 2 ^ 62 ∧ -(2 ^ 62) ≤ j ∧ j < 2 ^ 62) ∧ R (Itr i (j - i).toNat) H1
theorem pi_range1 {a : Expr} {ta : TA} {p pos : Pos} (hg : Gl X "range") (hm : X.mg "range" = none) (ha : PA X [a] ta) (hs : starEach [a] X.env = [(false, eval a X.env)] := by rfl) : PI X tg (.Call (.Name "range" p) [a] [] pos) (iRng1 ta) := by
  intro pins s σ H R I h
  refine Call_ (ld_blt I hg hm boot_range (PyProof.Rows.callWith_type1 (thn (ha pos pins s σ H _ I h) fun us s1 ⟨vs, H1, I1, r1, q1⟩ => ?_) hs rfl))
  obtain ⟨j, e, q1, q2, q⟩ := q1
  subst e
  cases r1 with
  | cons r rr =>
    cases rr
    obtain ⟨t, rfl⟩ := r
    exact call_range_1 (range_it I1 (by omega) (by omega) q1 q2 (by simpa using q))
theorem pi_range2 {a b : Expr} {ta : TA} {p pos : Pos} (hg : Gl X "range") (hm : X.mg "range" = none) (ha : PA X [a, b] ta) (hs : starEach [a, b] X.env = [(false, eval a X.env), (false, eval b X.env)] := by rfl) (hs2 : starEach [b] X.env = [(false, eval b X.env)] := by rfl) :
    PI X tg (.Call (.Name "range" p) [a, b] [] pos) (iRng2 ta) := by
  intro pins s σ H R I h
  refine Call_ (ld_blt I hg hm boot_range (PyProof.Rows.callWith_type1 (thn (ha pos pins s σ H _ I h) fun us s1 ⟨vs, H1, I1, r1, q1⟩ => ?_) (by rw [hs, hs2]) (by rw [hs2]; rfl)))
  obtain ⟨i, j, e, ⟨q1, q2, q3, q4⟩, q⟩ := q1
  subst e
  cases r1 with
  | cons r rr =>
    cases rr with
    | cons r' rr =>
      cases rr
      obtain ⟨t, rfl⟩ := r
      obtain ⟨t', rfl⟩ := r'
      exact call_range_2 (range_it I1 q1 q2 q3 q4 q)
/-- W: the invariant by the turn and a measure; N: what the body is to reach -/
def tFor (wi : TI) (g : TG) (tb : TS) : TS := fun D σ H => wi σ H fun J H1 => ∃ W : Nat → Nat → St → Hp → Prop, (∃ m, W 0 m σ H1) ∧ ∀ i m σ H, W i m σ H →
  (J.stop i H ∧ D.nx σ H) ∨ (J.go i H ∧ ∃ N : St → Hp → Prop, (∀ σ' H', N σ' H' → ∃ m', m' < m ∧ W (i + 1) m' σ' H') ∧ ∀ x H', J.yld i H x H' → g x σ H' fun σ2 H2 => tb { D with nx := N, ct := N, bk := D.nx } σ2 H2)
/-- the records at fp as they stand -/
def pinsAt (fp : List Addr) (h : Heap) : List (Addr × Obj) := fp.filterMap fun b => (h.get? b).map fun o => (b, o)
theorem mem_pinsAt {fp : List Addr} {h : Heap} {b : Addr} {o : Obj} (hb : b ∈ fp) (e : h.get? b = some o) : (b, o) ∈ pinsAt fp h := List.mem_filterMap.mpr ⟨b, hb, by rw [e]; rfl⟩
theorem of_pinsAt {fp : List Addr} {h : Heap} {p : Addr × Obj} (hp : p ∈ pinsAt fp h) : p.1 ∈ fp ∧ h.get? p.1 = some p.2 := by
  obtain ⟨b, hb, e⟩ := List.mem_filterMap.mp hp
  cases q : h.get? b with
  | none => rw [q] at e; cases e
  | some o =>
    rw [q] at e
    have e' : (b, o) = p := Option.some.inj e
    subst e'
    exact ⟨hb, q⟩
theorem Inv.pinned {pins : List (Addr × Obj)} {σ : St} {H : Hp} {s : Shared} {fp : List Addr} (I : Inv X pins σ H s) (hf : ∀ b ∈ fp, FpOk X pins H b) (ho : ∀ b ∈ fp, ∃ o, s.heap.get? b = some o ∧ ∀ v, o.data ≠ .cell v) : Inv X (pins ++ pinsAt fp s.heap) σ H s :=
  I.pins_of fun p hp => (List.mem_append.mp hp).elim (fun z => I.pin p (List.mem_append_right _ z)) fun z => by
    obtain ⟨hb, e⟩ := of_pinsAt z
    obtain ⟨f0, f1, f2, _⟩ := hf p.1 hb
    obtain ⟨o, e', d⟩ := ho p.1 hb
    rw [e] at e'; cases e'
    exact ⟨e, f0, f1, f2, d⟩
theorem Inv.unpinned {pins pl : List (Addr × Obj)} {σ : St} {H : Hp} {s : Shared} (I : Inv X (pins ++ pl) σ H s) : Inv X pins σ H s := I.pins_of fun p hp => I.pin p (List.mem_append_right _ (List.mem_append_left _ hp))
theorem ps_for {iter : Expr} {body : List Stmt} {wi : TI} {g : TG} {tb : TS} {pos : Pos} (hp : PassesOwn (model X.prog X.w) X.A X.env X.xe) (hc : X.calm = true) (hi : PI X tg iter wi) (hg : PG X tg g) (hb : PSs X body tb)
    (hs : ∀ x, foldedSetIterable iter X.env x = pure x := by intro _; rfl) : PS X (.For tg iter body [] pos) (tFor wi g tb) := by
  intro pins s σ H D I h
  refine wpAny_For (thn (hi pins s σ H _ I h) fun v s1 h1 => thn h1 fun itv s2 h2 => ?_) hs
  obtain ⟨it, fp, tn, J, H2, e, I2, T, st2, f2, W, ⟨m0, w0⟩, turn⟩ := h2
  subst e
  -- what stays true of the iterator's objects through the loop
  have stat : ∀ {H' : Hp}, (∀ b ∈ fp, H' b = none) → ∀ b ∈ fp, FpOk X pins H' b := fun hn b hb => ⟨hn b hb, (f2 b hb).2⟩
  refine codeAny_forLoop_any (fun n s' => ∃ i σ' H', Inv X pins σ' H' s' ∧ tn i s'.heap ∧ (∀ b ∈ fp, H' b = none) ∧ W i n σ' H') ?_ m0 ⟨0, σ, H2, I2, st2, fun b hb => (f2 b hb).1, w0⟩
  rintro n s3 ⟨i, σ3, H3, I3, st3, fr3, w3⟩
  rcases turn i n σ3 H3 w3 with ⟨stop, qn⟩ | ⟨go, N, hN, step⟩
  · refine wpAny_passesOwn hp (thn (T.done X rfl rfl rfl hc i pins s3 σ3 H3 X.xe I3 (stat fr3) st3 stop) fun r s4 ⟨hr, I4⟩ => ?_)
    subst hr
    exact wpAny_execs_nil ⟨σ3, H3, I4, qn⟩
  · refine wpAny_passesOwn hp (thn (T.item X rfl rfl rfl hc i pins s3 σ3 H3 X.xe I3 (stat fr3) st3 go) fun r s4 ⟨u, hr, h4⟩ => ?_)
    subst hr
    refine wpAny_passesOwn hp (thn h4 fun _ s5 ⟨x, H5, I5, r5, y5, st5, fr5⟩ => ?_)
    have I5' := I5.pinned (stat fr5) (T.obj _ _ st5)
    refine wpAny_passesOwn hp (thn (hg _ s5 σ3 H5 x u _ I5' r5 (step x H5 y5)) fun _ s6 ⟨σ6, H6, I6, q6⟩ => ?_)
    refine wpAny_passesOwn hp (thn (hb _ s6 σ6 H6 _ I6 q6) fun f s7 q7 => ?_)
    have again : ∀ {σ7 : St} {H7 : Hp}, Inv X (pins ++ pinsAt fp s5.heap) σ7 H7 s7 → N σ7 H7 → ∃ m, m < n ∧ ∃ i σ' H', Inv X pins σ' H' s7 ∧ tn i s7.heap ∧ (∀ b ∈ fp, H' b = none) ∧ W i m σ' H' := fun {σ7 H7} I7 n7 => by
      obtain ⟨m', hm, w7⟩ := hN σ7 H7 n7
      refine ⟨m', hm, i + 1, σ7, H7, I7.unpinned, T.keep _ _ _ st5 fun b hb o e => (I7.pin (b, o) (List.mem_append_right _ (List.mem_append_right _ (mem_pinsAt hb e)))).1, fun b hb => ?_, w7⟩
      obtain ⟨o, e, d⟩ := T.obj _ _ st5 b hb
      exact (I7.pin (b, o) (List.mem_append_right _ (List.mem_append_right _ (mem_pinsAt hb e)))).2.1
    cases f with
    | next => obtain ⟨σ7, H7, I7, n7⟩ := q7; exact again I7 n7
    | cont => obtain ⟨σ7, H7, I7, n7⟩ := q7; exact again I7 n7
    | brk => obtain ⟨σ7, H7, I7, q7⟩ := q7; exact ⟨σ7, H7, I7.unpinned, q7⟩
    | ret v => obtain ⟨x7, σ7, H7, I7, r7, q7⟩ := q7; exact ⟨x7, σ7, H7, I7.unpinned, r7, q7⟩
end
/-- over a list that the body leaves as it is -/
theorem for_list {K : PySem.W.Frag} {a : Addr} {xs : List V} {g : TG} {tb : TS} {D : Ends} {σ : St} {H : Hp} (Pv : Nat → St → Hp → Prop) (h0 : Pv 0 σ H) (hl : ∀ i σ H, i ≤ xs.length → Pv i σ H → SqL K H a xs)
    (hs : ∀ i x σ H, xs[i]? = some x → Pv i σ H → g x σ H fun σ2 H2 => tb { D with nx := Pv (i + 1), ct := Pv (i + 1), bk := D.nx } σ2 H2) (hd : ∀ σ H, Pv xs.length σ H → D.nx σ H) :
    ∃ W : Nat → Nat → St → Hp → Prop, (∃ m, W 0 m σ H) ∧ ∀ i m σ H, W i m σ H →
      ((Itl K a).stop i H ∧ D.nx σ H) ∨ ((Itl K a).go i H ∧ ∃ N : St → Hp → Prop, (∀ σ' H', N σ' H' → ∃ m', m' < m ∧ W (i + 1) m' σ' H') ∧ ∀ x H', (Itl K a).yld i H x H' → g x σ H' fun σ2 H2 => tb { D with nx := N, ct := N, bk := D.nx } σ2 H2) := by
  refine ⟨fun i m σ H => m = xs.length - i ∧ i ≤ xs.length ∧ Pv i σ H, ⟨xs.length, by simp, Nat.zero_le _, h0⟩, ?_⟩
  rintro i m σ H ⟨rfl, hi, p⟩
  have q := hl i σ H hi p
  by_cases hlt : i < xs.length
  · refine .inr ⟨⟨xs, xs[i], q, by simp [hlt]⟩, Pv (i + 1), fun σ' H' p' => ⟨xs.length - (i + 1), by omega, rfl, hlt, p'⟩, fun x H' y => ?_⟩
    obtain ⟨e, y⟩ := y
    subst e
    exact hs i x σ _ (y xs q) p
  · have e : i = xs.length := by omega
    subst e
    exact .inl ⟨⟨xs, q, Nat.le_refl _⟩, hd σ H p⟩
theorem for_range {lo : Int} {n : Nat} {g : TG} {tb : TS} {D : Ends} {σ : St} {H : Hp} (Pv : Nat → St → Hp → Prop) (h0 : Pv 0 σ H)
    (hs : ∀ i σ H, i < n → Pv i σ H → g (.int (lo + i)) σ H fun σ2 H2 => tb { D with nx := Pv (i + 1), ct := Pv (i + 1), bk := D.nx } σ2 H2) (hd : ∀ σ H, Pv n σ H → D.nx σ H) :
    ∃ W : Nat → Nat → St → Hp → Prop, (∃ m, W 0 m σ H) ∧ ∀ i m σ H, W i m σ H →
      ((Itr lo n).stop i H ∧ D.nx σ H) ∨ ((Itr lo n).go i H ∧ ∃ N : St → Hp → Prop, (∀ σ' H', N σ' H' → ∃ m', m' < m ∧ W (i + 1) m' σ' H') ∧ ∀ x H', (Itr lo n).yld i H x H' → g x σ H' fun σ2 H2 => tb { D with nx := N, ct := N, bk := D.nx } σ2 H2) := by
  refine ⟨fun i m σ H => m = n - i ∧ i ≤ n ∧ Pv i σ H, ⟨n, by simp, Nat.zero_le _, h0⟩, ?_⟩
  rintro i m σ H ⟨rfl, hi, p⟩
  by_cases hlt : i < n
  · refine .inr ⟨hlt, Pv (i + 1), fun σ' H' p' => ⟨n - (i + 1), by omega, rfl, hlt, p'⟩, fun x H' y => ?_⟩
    obtain ⟨e, y⟩ := y
    subst e y
    exact hs i σ _ hlt p
  · have e : i = n := by omega
    subst e
    exact .inl ⟨Nat.le_refl _, hd σ H p⟩
/-- while, by a word and a measure of the state -/
theorem while_by {c : TT} {tb : TS} {D : Ends} {σ : St} {H : Hp} (Pv : St → Hp → Prop) (μ : St → Hp → Nat) (h0 : Pv σ H)
    (hs : ∀ σ H, Pv σ H → c σ H fun b H1 => if b = true then tb { D with nx := fun σ' H' => Pv σ' H' ∧ μ σ' H' < μ σ H, ct := fun σ' H' => Pv σ' H' ∧ μ σ' H' < μ σ H, bk := D.nx } σ H1 else D.nx σ H1)
    (mono : ∀ σ H Q Q', (∀ b H1, Q b H1 → Q' b H1) → c σ H Q → c σ H Q') : tWhile c tb D σ H := by
  refine ⟨fun m σ H => m = μ σ H ∧ Pv σ H, ⟨_, rfl, h0⟩, ?_⟩
  rintro m σ H ⟨rfl, p⟩
  refine mono σ H _ _ (fun b H1 q => ?_) (hs σ H p)
  cases b with
  | true => exact ⟨_, fun σ' H' ⟨p', l⟩ => ⟨_, l, rfl, p'⟩, q⟩
  | false => exact q
end L2
namespace L2
open PySem PySem.Spec PyProof.Rows
abbrev R2 := V → V → Hp → VK → Prop
/-- a two-place operation on values: f is binaryOp op, inplaceOp op or compareOp op -/
def OpR (X : Cx) (f : Value → Value → Sem Value) (r : R2) : Prop :=
  ∀ (pins : List (Addr × Obj)) (s : Shared) (σ : St) (H : Hp) (x y : V) (v u : Value) (Q : VK), Inv X pins σ H s → RelV x v → RelV y u → r x y H Q →
    wpAny (model X.prog X.w) X.A (f v u) (EP X pins σ Q) X.xe s
/-- a one-place operation -/
def UnR (X : Cx) (f : Value → Sem Value) (r : V → Hp → VK → Prop) : Prop :=
  ∀ (pins : List (Addr × Obj)) (s : Shared) (σ : St) (H : Hp) (x : V) (v : Value) (Q : VK), Inv X pins σ H s → RelV x v → r x H Q →
    wpAny (model X.prog X.w) X.A (f v) (EP X pins σ Q) X.xe s
/-- a call of a value that is known (a builtin, a type) with values -/
def CallR (X : Cx) (f : Value) (r : List V → Hp → VK → Prop) : Prop :=
  ∀ (pins : List (Addr × Obj)) (s : Shared) (σ : St) (H : Hp) (xs : List V) (us : List Value) (Q : VK), Inv X pins σ H s → Vals xs us → r xs H Q →
    wpAny (model X.prog X.w) X.A (call f us) (EP X pins σ Q) X.xe s
def tOp (r : R2) (ta tb : TE) : TE := fun σ H Q => ta σ H fun x H1 => tb σ H1 fun y H2 => r x y H2 Q
def tUn (r : V → Hp → VK → Prop) (ta : TE) : TE := fun σ H Q => ta σ H fun x H1 => r x H1 Q
/-- ints in, under C, and a value out -/
def rI (C : Int → Int → Prop) (g : Int → Int → V) : R2 := fun x y H Q => ∃ i j, x = .int i ∧ y = .int j ∧ C i j ∧ Q (g i j) H
def rI0 (g : Int → Int → V) : R2 := fun x y H Q => ∃ i j, x = .int i ∧ y = .int j ∧ Q (g i j) H
def rU (g : Int → V) : V → Hp → VK → Prop := fun x H Q => ∃ i, x = .int i ∧ Q (g i) H
section
variable {X : Cx} {a b c : Expr} {ta tb tc : TE} {pos : Pos}
theorem binT (ha : PE X a ta) (hb : PE X b tb) {pins : List (Addr × Obj)} {s : Shared} {σ : St} {H : Hp} {R : V → V → Hp → Prop} (I : Inv X pins σ H s)
    (h : ta σ H fun x H1 => tb σ H1 fun y H2 => R x y H2) {Q : Value → Shared → Prop} {f : Value → Value → Sem Value}
    (hf : ∀ v u s2 x y H2, Inv X pins σ H2 s2 → RelV x v → RelV y u → R x y H2 → wpAny (model X.prog X.w) X.A (f v u) Q X.xe s2) :
    wpAny (model X.prog X.w) X.A (eval a X.env) (fun v s₁ => wpAny (model X.prog X.w) X.A (eval b X.env) (fun u s₂ => wpAny (model X.prog X.w) X.A (f v u) Q X.xe s₂) X.xe s₁) X.xe s := by
  refine thn (ha pins s σ H _ I h) fun v s1 ⟨x, H1, I1, r1, q1⟩ => ?_
  refine thn (hb pins s1 σ H1 _ I1 q1) fun u s2 ⟨y, H2, I2, r2, q2⟩ => ?_
  exact hf v u s2 x y H2 I2 r1 r2 q2
theorem pe_op {op : Operator} {r : R2} (ho : OpR X (binaryOp op) r) (ha : PE X a ta) (hb : PE X b tb) : PE X (.BinOp a op b pos) (tOp r ta tb) := by
  intro pins s σ H Q I h
  exact wpAny_BinOp (binT ha hb I h fun v u s2 x y H2 I2 rx ry q => ho pins s2 σ H2 x y v u Q I2 rx ry q)
theorem pe_un {op : UnaryOp} {r : V → Hp → VK → Prop} (ho : UnR X (unaryOp op) r) (ha : PE X a ta) : PE X (.UnaryOp op a pos) (tUn r ta) := by
  intro pins s σ H Q I h
  exact UnaryOp_ (thn (ha pins s σ H _ I h) fun v s1 ⟨x, H1, I1, r1, q1⟩ => ho pins s1 σ H1 x v Q I1 r1 q1)
theorem opI {f : Value → Value → Sem Value} {C : Int → Int → Prop} {g : Int → Int → Int}
    (rule : ∀ (i j : Int) (t u : Tok) (s : Shared) (Q : Value → Shared → Prop) (E : Value → Shared → Prop), C i j → Q (.int (g i j) s.toks) { s with toks := s.toks + 1 } → wpAny (model X.prog X.w) X.A (f (.int i t) (.int j u)) Q E s) :
    OpR X f (rI C fun i j => .int (g i j)) := by
  intro pins s σ H x y v u Q I rx ry h
  obtain ⟨i, j, rfl, rfl, hc, q⟩ := h
  obtain ⟨t, rfl⟩ := rx
  obtain ⟨t', rfl⟩ := ry
  exact rule i j t t' s _ _ hc ⟨.int (g i j), H, I.tok _, ⟨_, rfl⟩, q⟩
theorem opI0 {f : Value → Value → Sem Value} {g : Int → Int → Int}
    (rule : ∀ (i j : Int) (t u : Tok) (s : Shared) (Q : Value → Shared → Prop) (E : Value → Shared → Prop), Q (.int (g i j) s.toks) { s with toks := s.toks + 1 } → wpAny (model X.prog X.w) X.A (f (.int i t) (.int j u)) Q E s) :
    OpR X f (rI0 fun i j => .int (g i j)) := by
  intro pins s σ H x y v u Q I rx ry h
  obtain ⟨i, j, rfl, rfl, q⟩ := h
  obtain ⟨t, rfl⟩ := rx
  obtain ⟨t', rfl⟩ := ry
  exact rule i j t t' s _ _ ⟨.int (g i j), H, I.tok _, ⟨_, rfl⟩, q⟩
theorem opB0 {f : Value → Value → Sem Value} {g : Int → Int → Bool}
    (rule : ∀ (i j : Int) (t u : Tok) (s : Shared) (Q : Value → Shared → Prop) (E : Value → Shared → Prop), Q (.bool (g i j)) s → wpAny (model X.prog X.w) X.A (f (.int i t) (.int j u)) Q E s) :
    OpR X f (rI0 fun i j => .bl (g i j)) := by
  intro pins s σ H x y v u Q I rx ry h
  obtain ⟨i, j, rfl, rfl, q⟩ := h
  obtain ⟨t, rfl⟩ := rx
  obtain ⟨t', rfl⟩ := ry
  exact rule i j t t' s _ _ ⟨.bl (g i j), H, I, rfl, q⟩
def CDiv (i j : Int) : Prop := 0 < j ∧ j < 1073741824
def CMul (i j : Int) : Prop := (-(2 ^ 64) < i ∧ i < 2 ^ 64) ∨ (-(2 ^ 64) < j ∧ j < 2 ^ 64)
theorem CMul.ok {i j : Int} (h : CMul i j) : IntMulOk i j := by
  rcases h with ⟨h1, h2⟩ | ⟨h1, h2⟩
  · exact .of_left (intBits_le_64 h1 h2)
  · exact .of_right (intBits_le_64 h1 h2)
theorem op_add : OpR X (binaryOp .Add) (rI0 fun i j => .int (i + j)) := opI0 fun _ _ _ _ _ _ _ q => add_int q
theorem op_sub : OpR X (binaryOp .Sub) (rI0 fun i j => .int (i - j)) := opI0 fun _ _ _ _ _ _ _ q => sub_int q
theorem op_mul : OpR X (binaryOp .Mult) (rI CMul fun i j => .int (i * j)) := opI fun _ _ _ _ _ _ _ hc q => mul_int q hc.ok
/-- // by a positive divisor -/
theorem op_fdiv : OpR X (binaryOp .FloorDiv) (rI CDiv fun i j => .int (i / j)) := opI fun i j _ _ _ _ _ hc q => by
  have h1 : (0 : Int) < j := hc.1
  have h2 : j < 1073741824 := hc.2
  exact floordiv_int (by omega) (by rw [Int.fdiv_eq_ediv_of_nonneg i (by omega)]; exact q) (.inl (PyProof.noPylong_small (by omega)))
/-- % by a positive divisor of any size -/
theorem op_mod : OpR X (binaryOp .Mod) (rI (fun _ j => 0 < j) fun i j => .int (i % j)) := opI fun i j _ _ _ _ _ hc q => by
  have h1 : (0 : Int) < j := hc
  exact mod_int' (by omega) (by rw [Int.fmod_eq_emod_of_nonneg i (by omega)]; exact q)
theorem unI {f : Value → Sem Value} {g : Int → Int}
    (rule : ∀ (i : Int) (t : Tok) (s : Shared) (Q : Value → Shared → Prop) (E : Value → Shared → Prop), Q (.int (g i) s.toks) { s with toks := s.toks + 1 } → wpAny (model X.prog X.w) X.A (f (.int i t)) Q E s) :
    UnR X f (rU fun i => .int (g i)) := by
  intro pins s σ H x v Q I rx h
  obtain ⟨i, rfl, q⟩ := h
  obtain ⟨t, rfl⟩ := rx
  exact rule i t s _ _ ⟨.int (g i), H, I.tok _, ⟨_, rfl⟩, q⟩
theorem un_neg : UnR X (unaryOp .USub) (rU fun i => .int (-i)) := unI fun _ _ _ _ _ q => neg_int q
end
/-- the scalars that == tells apart as data does -/
def scal : V → V → Bool
  | .non, .non => true | .non, .int _ => true | .int _, .non => true | .non, .bl _ => true | .bl _, .non => true | .non, .str _ => true | .str _, .non => true
  | .int _, .int _ => true | .bl _, .bl _ => true | .str _, .str _ => true | .byt _, .byt _ => true
  | .int _, .str _ => true | .str _, .int _ => true | .bl _, .str _ => true | .str _, .bl _ => true
  | _, _ => false
def rEq : R2 := fun x y H Q => scal x y = true ∧ Q (.bl (decide (x = y))) H
def rNe : R2 := fun x y H Q => scal x y = true ∧ Q (.bl (!decide (x = y))) H
theorem dec_int {i j : Int} : decide (V.int i = V.int j) = (i == j) := by
  rw [Bool.eq_iff_iff]
  simp
theorem dec_bl {i j : Bool} : decide (V.bl i = V.bl j) = (i == j) := by
  rw [Bool.eq_iff_iff]
  simp
theorem dec_str {i j : Str} : decide (V.str i = V.str j) = (i == j) := by
  rw [Bool.eq_iff_iff]
  simp
theorem dec_byt {i j : Array UInt8} : decide (V.byt i = V.byt j) = (i.toList == j.toList) := by
  rw [Bool.eq_iff_iff]
  cases i
  cases j
  simp
section
variable {X : Cx} {a b c : Expr} {ta tb tc : TE} {pos : Pos}
theorem fin_bl {pins : List (Addr × Obj)} {σ : St} {H : Hp} {s : Shared} {Q : VK} {k k' : Bool} (I : Inv X pins σ H s) (q : Q (.bl k) H) (e : k = k') : EP X pins σ Q (.bool k') s := by
  subst e
  exact ⟨.bl k, H, I, rfl, q⟩
theorem op_eq : OpR X (compareOp .Eq) rEq := by
  intro pins s σ H x y v u Q I rx ry h
  obtain ⟨hs, q⟩ := h
  cases x with
  | non =>
    cases rx
    cases y with
    | non => cases ry; exact PySem.EqNone.eq_none_none (fin_bl I q (by simp))
    | bl j => cases ry; exact PySem.EqNone.eq_none_bool (fin_bl I q (by simp))
    | int j => obtain ⟨t', rfl⟩ := ry; exact PySem.EqNone.eq_none_int (fin_bl I q (by simp))
    | str j => obtain ⟨t', rfl⟩ := ry; exact PySem.EqNone.eq_none_str (fin_bl I q (by simp))
    | _ => exact absurd (show false = true from hs) Bool.false_ne_true
  | bl i =>
    cases rx
    cases y with
    | non => cases ry; exact PySem.EqNone.eq_bool_none (fin_bl I q (by simp))
    | bl j => cases ry; exact eq_bool (fin_bl I q dec_bl)
    | str j => obtain ⟨t', rfl⟩ := ry; exact PySem.EqMixed.eq_bool_str (fin_bl I q (by simp))
    | _ => exact absurd (show false = true from hs) Bool.false_ne_true
  | int i =>
    obtain ⟨t, rfl⟩ := rx
    cases y with
    | non => cases ry; exact PySem.EqNone.eq_int_none (fin_bl I q (by simp))
    | int j => obtain ⟨t', rfl⟩ := ry; exact eq_int (fin_bl I q dec_int)
    | str j => obtain ⟨t', rfl⟩ := ry; exact PySem.EqMixed.eq_int_str (fin_bl I q (by simp))
    | _ => exact absurd (show false = true from hs) Bool.false_ne_true
  | str i =>
    obtain ⟨t, rfl⟩ := rx
    cases y with
    | non => cases ry; exact PySem.EqNone.eq_str_none (fin_bl I q (by simp))
    | bl j => cases ry; exact PySem.EqMixed.eq_str_bool (fin_bl I q (by simp))
    | int j => obtain ⟨t', rfl⟩ := ry; exact PySem.EqMixed.eq_str_int (fin_bl I q (by simp))
    | str j => obtain ⟨t', rfl⟩ := ry; exact eq_str (fin_bl I q dec_str)
    | _ => exact absurd (show false = true from hs) Bool.false_ne_true
  | byt i =>
    obtain ⟨t, rfl⟩ := rx
    cases y with
    | byt j => obtain ⟨t', rfl⟩ := ry; exact PySem.W.eq_bytes (fin_bl I q dec_byt)
    | _ => exact absurd (show false = true from hs) Bool.false_ne_true
  | _ => cases y <;> exact absurd (show false = true from hs) Bool.false_ne_true
theorem op_ne : OpR X (compareOp .NotEq) rNe := by
  intro pins s σ H x y v u Q I rx ry h
  obtain ⟨hs, q⟩ := h
  cases x with
  | non =>
    cases rx
    cases y with
    | non => cases ry; exact PySem.EqNone.ne_none_none (fin_bl I q (by simp))
    | bl j => cases ry; exact PySem.EqNone.ne_none_bool (fin_bl I q (by simp))
    | int j => obtain ⟨t', rfl⟩ := ry; exact PySem.EqNone.ne_none_int (fin_bl I q (by simp))
    | str j => obtain ⟨t', rfl⟩ := ry; exact PySem.EqNone.ne_none_str (fin_bl I q (by simp))
    | _ => exact absurd (show false = true from hs) Bool.false_ne_true
  | bl i =>
    cases rx
    cases y with
    | non => cases ry; exact PySem.EqNone.ne_bool_none (fin_bl I q (by simp))
    | bl j => cases ry; exact ne_bool (fin_bl I q (congrArg not dec_bl))
    | str j => obtain ⟨t', rfl⟩ := ry; exact PySem.EqMixed.ne_bool_str (fin_bl I q (by simp))
    | _ => exact absurd (show false = true from hs) Bool.false_ne_true
  | int i =>
    obtain ⟨t, rfl⟩ := rx
    cases y with
    | non => cases ry; exact PySem.EqNone.ne_int_none (fin_bl I q (by simp))
    | int j => obtain ⟨t', rfl⟩ := ry; exact ne_int (fin_bl I q (congrArg not dec_int))
    | str j => obtain ⟨t', rfl⟩ := ry; exact PySem.EqMixed.ne_int_str (fin_bl I q (by simp))
    | _ => exact absurd (show false = true from hs) Bool.false_ne_true
  | str i =>
    obtain ⟨t, rfl⟩ := rx
    cases y with
    | non => cases ry; exact PySem.EqNone.ne_str_none (fin_bl I q (by simp))
    | bl j => cases ry; exact PySem.EqMixed.ne_str_bool (fin_bl I q (by simp))
    | int j => obtain ⟨t', rfl⟩ := ry; exact PySem.EqMixed.ne_str_int (fin_bl I q (by simp))
    | str j => obtain ⟨t', rfl⟩ := ry; exact ne_str (fin_bl I q (congrArg not dec_str))
    | _ => exact absurd (show false = true from hs) Bool.false_ne_true
  | byt i =>
    obtain ⟨t, rfl⟩ := rx
    cases y with
    | byt j => obtain ⟨t', rfl⟩ := ry; exact PySem.W.ne_bytes (fin_bl I q (congrArg not dec_byt))
    | _ => exact absurd (show false = true from hs) Bool.false_ne_true
  | _ => cases y <;> exact absurd (show false = true from hs) Bool.false_ne_true
theorem op_lt : OpR X (compareOp .Lt) (rI0 fun i j => .bl (decide (i < j))) := opB0 fun _ _ _ _ _ _ _ q => lt_int q
theorem op_le : OpR X (compareOp .LtE) (rI0 fun i j => .bl (decide (i ≤ j))) := opB0 fun _ _ _ _ _ _ _ q => le_int q
theorem op_gt : OpR X (compareOp .Gt) (rI0 fun i j => .bl (decide (j < i))) := opB0 fun _ _ _ _ _ _ _ q => gt_int q
theorem op_ge : OpR X (compareOp .GtE) (rI0 fun i j => .bl (decide (j ≤ i))) := opB0 fun _ _ _ _ _ _ _ q => ge_int q
theorem op_notN : OpR X (compareOp .IsNot) (fun x y H Q => y = .non ∧ Q (.bl (!decide (x = .non))) H) := by
  intro pins s σ H x y v u Q I rx ry h
  obtain ⟨rfl, q⟩ := h
  cases ry
  refine isnot_none_gen (fin_bl I q ?_)
  cases x <;> first
    | (cases rx; rfl)
    | (obtain ⟨t, rfl⟩ := rx; rfl)
theorem nomark (b : Expr) {op : CmpOp} (h : op ≠ .In := by decide) (h2 : op ≠ .NotIn := by decide) : behindInMarks op b = false := by
  have e1 : (op == CmpOp.In) = false := by cases op <;> first | rfl | exact absurd rfl h
  have e2 : (op == CmpOp.NotIn) = false := by cases op <;> first | rfl | exact absurd rfl h2
  cases b <;> simp [behindInMarks, e1, e2]
/-- a comparison as a value; hm: nomark b, or (for in, not in) by with_unfolding_all rfl -/
theorem pe_cmpR {op : CmpOp} {r : R2} (ho : OpR X (compareOp op) r) (ha : PE X a ta) (hb : PE X b tb) (hm : behindInMarks op b = false) : PE X (.Compare a [op] [b] pos) (tOp r ta tb) := by
  intro pins s σ H Q I h
  exact wpAny_Compare1 (binT ha hb I h fun v u s2 x y H2 I2 rx ry q => ho pins s2 σ H2 x y v u Q I2 rx ry q) hm
/-- a reading of a value as a test -/
def tTest (t : TE) : TT := fun σ H Q => t σ H fun x H' => ∃ k, x = .bl k ∧ Q k H'
theorem pt_cmpR {op : CmpOp} {r : R2} (ho : OpR X (compareOp op) r) (ha : PE X a ta) (hb : PE X b tb) (hm : behindInMarks op b = false) : PT X (.Compare a [op] [b] pos) (tTest (tOp r ta tb)) := by
  intro pins s σ H Q I h
  refine wpAny_isTrue_Compare1 (thn (ha pins s σ H _ I h) fun v s1 ⟨x, H1, I1, r1, q1⟩ => thn (hb pins s1 σ H1 _ I1 q1) fun u s2 ⟨y, H2, I2, r2, q2⟩ =>
    thn (ho pins s2 σ H2 x y v u _ I2 r1 r2 q2) fun c s3 ⟨z, H3, I3, r3, k, e, q3⟩ => ?_) hm
  subst e
  cases r3
  exact wpAny_truthy_bool ⟨H3, I3, q3⟩
/-- a op1 b op2 c -/
def tChain (r r' : R2) (ta tb tc : TE) : TE := fun σ H Q => ta σ H fun x H1 => tb σ H1 fun y H2 => r x y H2 fun z H3 => ∃ k, z = .bl k ∧
  (if k = true then tc σ H3 fun w' H4 => r' y w' H4 Q else Q (.bl false) H3)
theorem pt_chain {op op' : CmpOp} {r r' : R2} (ho : OpR X (compareOp op) r) (ho' : OpR X (compareOp op') r') (ha : PE X a ta) (hb : PE X b tb) (hc : PE X c tc)
    (hm : lastMarks [op, op'] [b, c] = false := by with_unfolding_all rfl) : PT X (.Compare a [op, op'] [b, c] pos) (tTest (tChain r r' ta tb tc)) := by
  intro pins s σ H Q I h
  refine isTrue_chain (thn (ha pins s σ H _ I h) fun v s1 ⟨x, H1, I1, r1, q1⟩ => test_link (thn (hb pins s1 σ H1 _ I1 q1) fun u s2 ⟨y, H2, I2, r2, q2⟩ =>
    thn (ho pins s2 σ H2 x y v u _ I2 r1 r2 q2) fun d s3 ⟨z, H3, I3, r3, k, e, q3⟩ => ?_)) hm
  subst e
  cases r3
  refine wpAny_truthy_bool ?_
  cases k with
  | false =>
    obtain ⟨k', e', q'⟩ := q3
    cases e'
    exact ite_ff ⟨H3, I3, q'⟩
  | true =>
    refine ite_tt (test_last (thn (hc pins s3 σ H3 _ I3 q3) fun w' s4 ⟨z', H4, I4, r4, q4⟩ => thn (ho' pins s4 σ H4 y z' u w' _ I4 r2 r4 q4) fun d' s5 ⟨z2, H5, I5, r5, k2, e2, q5⟩ => ?_))
    subst e2
    cases r5
    exact wpAny_truthy_bool ⟨H5, I5, q5⟩
theorem line63 : (sizeLine : Nat) < 2 ^ 63 := by rw [sizeLine_eq]; decide
theorem vals1 {x : V} {us : List Value} (r : Vals [x] us) : ∃ u, us = [u] ∧ RelV x u := by
  cases r with
  | cons r1 r2 => cases r2; exact ⟨_, rfl, r1⟩
theorem vals2 {x y : V} {us : List Value} (r : Vals [x, y] us) : ∃ u w', us = [u, w'] ∧ RelV x u ∧ RelV y w' := by
  cases r with
  | cons r1 r2 =>
    cases r2 with
    | cons r3 r4 => cases r4; exact ⟨_, _, rfl, r1, r3⟩
theorem call_max2 (hc : X.calm = true) : CallR X (.builtin "max") (fun xs H Q => ∃ i j, xs = [.int i, .int j] ∧ Q (.int (if j > i then j else i)) H) := by
  intro pins s σ H xs us Q I r h
  obtain ⟨i, j, rfl, q⟩ := h
  obtain ⟨u, w', rfl, ⟨t, rfl⟩, ⟨t', rfl⟩⟩ := vals2 r
  refine max_two_ints (I.ok.hd hc) fun h' tk k => ⟨_, H, I.kept k, ?_, q⟩
  by_cases hj : j > i
  · rw [if_pos hj, if_pos hj]; exact ⟨_, rfl⟩
  · rw [if_neg hj, if_neg hj]; exact ⟨_, rfl⟩
theorem call_min2 (hc : X.calm = true) : CallR X (.builtin "min") (fun xs H Q => ∃ i j, xs = [.int i, .int j] ∧ Q (.int (if j < i then j else i)) H) := by
  intro pins s σ H xs us Q I r h
  obtain ⟨i, j, rfl, q⟩ := h
  obtain ⟨u, w', rfl, ⟨t, rfl⟩, ⟨t', rfl⟩⟩ := vals2 r
  refine min_two_ints (I.ok.hd hc) fun h' tk k => ⟨_, H, I.kept k, ?_, q⟩
  by_cases hj : j < i
  · rw [if_pos hj, if_pos hj]; exact ⟨_, rfl⟩
  · rw [if_neg hj, if_neg hj]; exact ⟨_, rfl⟩
end
end L2
namespace L2
open PySem PySem.Spec PyProof.Rows
structure ObjM (h : Heap) (x dx C : Addr) (mA : Str → Option Value) : Prop where
  obj : h.get? x = some (PySem.W.instObj C dx)
  ns : h.Ns1 dx mA
  ne : dx ≠ x
theorem lookIn_ns {h : Heap} {dx : Addr} {mA : Str → Option Value} (n : h.Ns1 dx mA) : ∃ od, h.get? dx = some od ∧ ∀ name, PySem.W.lookIn name od = some (mA name) := by
  obtain ⟨o, es, ep, ho, hd, hk, _, hm⟩ := n
  refine ⟨o, ho, fun name => ?_⟩
  have e := hm name
  unfold nsFind findBy at e
  rw [← Array.find?_toList] at e
  unfold PySem.W.lookIn
  rw [hd]
  dsimp only
  split
  · rename_i y q
    rw [q] at e
    exact congrArg some e
  · rename_i q
    rw [q] at e
    have a : es.toList.any (·.refKey) = false := by
      rw [List.any_eq_false]
      intro y hy
      obtain ⟨z, t, hkey⟩ := hk y (Array.mem_toList_iff.mp hy)
      simp [DictEntry.refKey, hkey]
    have a' : ¬ es.toList.any (·.refKey) = true := by rw [a]; exact Bool.false_ne_true
    rw [if_neg a']
    exact congrArg some e
theorem ObjM.look {h : Heap} {x dx C : Addr} {mA : Str → Option Value} (I : ObjM h x dx C mA) : ∃ od, PySem.W.InstAt h x (PySem.W.instObj C dx) C (some od) ∧ ∀ name, PySem.W.lookIn name od = some (mA name) :=
  let ⟨od, ho, hl⟩ := lookIn_ns I.ns
  ⟨od, ⟨I.obj, rfl, rfl, ho⟩, hl⟩
section
variable {prog : Program} {w : World} {A : Around} {E : Value → Shared → Prop} {s : Shared} {K : PySem.W.Frag} {x dx C f : Addr} {mA : Str → Option Value} {name : Str} {v : Value}
theorem get_map {expr : Bool} {Q : Value → Shared → Prop} (X : K.In s.heap) (I : ObjM s.heap x dx C mA) (hg : PySem.W.plainGet K C name = true) (hh : PySem.W.hasDictIn K C = true)
    (ha : PySem.W.findIn K (.ref C) name = some none) (hv : mA name = some v) (hv' : PySem.W.handedIn v = true) (h : Q v { s with toks := s.toks + 1 }) :
    wpAny (model prog w) A (getAttr (.ref x) name expr) Q E s := by
  obtain ⟨od, J, hl⟩ := I.look
  exact PySem.W.get_value X J (PySem.W.plainGet_of hg).1 (PySem.W.findObj_own hh ha rfl (by rw [hl, hv])) hv' h
theorem get_meth {pl : Sem Bool} {Q : Value × List Value → Shared → Prop} (X : K.In s.heap) (I : ObjM s.heap x dx C mA) (hg : PySem.W.plainGet K C name = true)
    (hf : PySem.W.findIn K (.ref C) name = some (some (.ref f))) (ht : PySem.W.isFn K (.ref f) = true) (hv : mA name = none) (h : Q (.ref f, [.ref x]) s) :
    wpAny (model prog w) A (getMethod (.ref x) name pl) Q E s := by
  obtain ⟨od, J, hl⟩ := I.look
  exact PySem.W.method_fn X J (PySem.W.plainGet_of hg).1 (PySem.W.plainGet_of hg).2 hf (beq_iff_eq.mp ht) (by show (PySem.W.lookIn name od).map (·.isSome) = some false; rw [hl, hv]; rfl) h
theorem set_map {ns : List Str} {Q : Unit → Shared → Prop} (X : K.In s.heap) (I : ObjM s.heap x dx C mA)
    (hs : PySem.W.findIn K (.ref C) "__setattr__" = some (some (.builtin "object.__setattr__"))) (hp : PySem.W.plainOver K C = true) (ht : PySem.W.takerIn K C name = some none) (hh : PySem.W.hasDictIn K C = true)
    (hw : PySem.Within mA ns) (hsz : ns.length ≤ sizeLine)
    (h : ∀ h', ObjM h' x dx C (fun y => if y = name then some v else mA y) → Heap.SameBut dx s.heap h' → Q () { s with heap := h', toks := s.toks + 2 }) :
    wpAny (model prog w) A (setAttr (.ref x) name v) Q E s := by
  obtain ⟨od, J, hl⟩ := I.look
  refine PySem.W.set_plain X J hs (PySem.W.osa_open (s := { s with toks := s.toks + 1 }) (r := none) X J hp ht fun b => ?_)
  obtain ⟨cd, hc, hd'⟩ := PySem.W.any_some hh
  have hx : s.heap.get? x = some ⟨.ref C, some dx, .plain, #[]⟩ := I.obj
  refine wpAny_bind (wpAny_pure (wpAny_bind (wpAny_bind (wpAny_loadPart hx (wpAny_bind (PySem.W.Looks.here (s := { s with toks := s.toks + 1 }) (PySem.W.looks_clsIn X hc) ?_))))))
  rw [hd']
  refine wpAny_pure (a := some dx) (wpAny_bind (wpAny_pure (wpAny_bind ?_)))
  refine wpAny_nsSet1 (s := { s with toks := s.toks + 1 }) I.ns fun h' hn2 hs2 => ?_
  obtain ⟨oD, esD, epD, hoD, hdD, hcD⟩ := hn2.count (PySem.Within.cons name v hw)
  refine wpAny_bind (wpAny_lookBehind hoD (by rw [hdD]; exact pastItsLine_dict (Nat.le_trans hcD (by rw [List.length_cons]; omega))) ?_)
  exact wpAny_pure (h _ ⟨(hs2.2 _ (Ne.symm I.ne)).trans I.obj, hn2, I.ne⟩ hs2)
/-- C(..): the dict at the heap's end, the instance behind it; then its __init__ -/
theorem make_map {R : Result → Shared → Prop} {vs : List Value} {kw : List (Str × Value)} (X : K.In s.heap) (hm : PySem.W.makesIn K C = true)
    (hi : PySem.W.findIn K (.ref C) "__init__" = some (some (.ref f))) (hf : PySem.W.typeIn K (.ref f) = some (.type "function"))
    (h : codeAny (model prog w) (A.under (.builtin "type.__call__" ⟨.ref C :: vs, kw⟩)) (.call (.ref f) ⟨.ref (s.heap.objs.size + 1) :: vs, kw⟩) (PySem.W.InitBack (s.heap.objs.size + 1) R)
      { s with heap := (s.heap.push PySem.W.emptyDict).push (PySem.W.instObj C s.heap.objs.size) }) :
    codeAny (model prog w) A (.call (.ref C) ⟨vs, kw⟩) R s := by
  obtain ⟨hh, g, d, t, os⟩ := s
  exact PySem.W.make_core (PySem.W.makes_of X hm) (PySem.W.looks_findIn X hi) (fun self => PySem.W.bind_fn X self hf) (.inl rfl) h
end
def putF (f : Str) (v : V) : List (Str × V) → List (Str × V)
  | [] => [(f, v)]
  | (g, x) :: r => if g = f then (g, v) :: r else (g, x) :: putF f v r
theorem lookup_putF (f g : Str) (v : V) : ∀ fs : List (Str × V), (putF f v fs).lookup g = if g = f then some v else fs.lookup g
  | [] => by
    show List.lookup g [(f, v)] = _
    by_cases h : g = f
    · have hb : (g == f) = true := beq_iff_eq.mpr h
      simp only [List.lookup, hb, if_pos h]
    · have hb : (g == f) = false := beq_eq_false_iff_ne.mpr h
      simp only [List.lookup, hb, if_neg h]
  | (k, x) :: r => by
    have ih := lookup_putF f g v r
    rw [show putF f v ((k, x) :: r) = (if k = f then (k, v) :: r else (k, x) :: putF f v r) from rfl]
    by_cases hk : k = f
    · rw [if_pos hk]
      by_cases h : g = k
      · have hb : (g == k) = true := beq_iff_eq.mpr h
        simp only [List.lookup, hb, if_pos (h.trans hk)]
      · have hb : (g == k) = false := beq_eq_false_iff_ne.mpr h
        simp only [List.lookup, hb, if_neg (fun e : g = f => h (e.trans hk.symm))]
    · rw [if_neg hk]
      by_cases h : g = k
      · have hb : (g == k) = true := beq_iff_eq.mpr h
        simp only [List.lookup, hb, if_neg (fun e : g = f => hk (h.symm.trans e))]
      · have hb : (g == k) = false := beq_eq_false_iff_ne.mpr h
        simp only [List.lookup, hb]
        exact ih
theorem keys_putF (f : Str) (v : V) : ∀ fs : List (Str × V), f ∈ (putF f v fs).map (·.1) ∧ ∀ g, g ∈ fs.map (·.1) → g ∈ (putF f v fs).map (·.1)
  | [] => ⟨by simp [putF], fun g h => by simp at h⟩
  | (k, x) :: r => by
    obtain ⟨i1, i2⟩ := keys_putF f v r
    rw [show putF f v ((k, x) :: r) = (if k = f then (k, v) :: r else (k, x) :: putF f v r) from rfl]
    by_cases hk : k = f
    · rw [if_pos hk]
      subst hk
      exact ⟨by simp, fun g h => by simpa using h⟩
    · rw [if_neg hk]
      refine ⟨?_, fun g h => ?_⟩
      · rw [List.map_cons]
        exact List.mem_cons_of_mem _ i1
      · rw [List.map_cons] at h ⊢
        rcases List.mem_cons.mp h with e | e
        · exact List.mem_cons.mpr (.inl e)
        · exact List.mem_cons_of_mem _ (i2 g e)
theorem length_putF (f : Str) (v : V) : ∀ fs : List (Str × V), (putF f v fs).length ≤ fs.length + 1
  | [] => by simp [putF]
  | (k, x) :: r => by
    have ih := length_putF f v r
    rw [show putF f v ((k, x) :: r) = (if k = f then (k, v) :: r else (k, x) :: putF f v r) from rfl]
    by_cases hk : k = f
    · rw [if_pos hk, List.length_cons, List.length_cons]; omega
    · rw [if_neg hk, List.length_cons, List.length_cons]; omega
theorem RelO.some_of {v : V} {o : Option Value} (r : RelO (some v) o) : ∃ u, o = some u ∧ RelV v u := by
  cases o with
  | none => exact (show False from r).elim
  | some u => exact ⟨u, rfl, r⟩
theorem RelO.none_of {o : Option Value} (r : RelO none o) : o = none := by
  cases o with
  | none => rfl
  | some u => exact (show False from r).elim
theorem handed_of {v : V} {u : Value} (r : RelV v u) : PySem.W.handedIn u = true := by
  cases v with
  | non => cases (show u = Value.none from r); rfl
  | bl b => cases (show u = Value.bool b from r); rfl
  | int i => obtain ⟨t, e⟩ := (show ∃ t, u = Value.int i t from r); cases e; rfl
  | str x => obtain ⟨t, e⟩ := (show ∃ t, u = Value.str x t from r); cases e; rfl
  | byt b => obtain ⟨t, e⟩ := (show ∃ t, u = Value.bytes b t from r); cases e; rfl
  | flt b => obtain ⟨t, e⟩ := (show ∃ t, u = Value.float b t from r); cases e; rfl
  | ref a => cases (show u = Value.ref a from r); rfl
  | ty n => cases (show u = Value.type n from r); rfl
section
variable {P : Program} {w : World} {H H' : Hp} {h h' : Heap} {a C dx : Addr} {fs fs' : List (Str × V)}
theorem ins_get (hok : HOk P w H h) (e : H a = some (.ins C dx fs)) : ∃ mA, ObjM h a dx C mA ∧ (∀ f, RelO (fs.lookup f) (mA f)) ∧ PySem.Within mA (fs.map (·.1)) ∧ fs.length ≤ 1000 ∧ H dx = some (.own a) := by
  obtain ⟨d, z, ne, ob, mA, n, r, q⟩ := (show ObjOk P w H h a (.ins C dx fs) from hok a _ e)
  exact ⟨mA, ⟨ob, n, ne⟩, r, q, z, d⟩
end
structure Cls (K : PySem.W.Frag) (C : Addr) : Prop where
  pg : PySem.W.plainGet K C Str.empty = true
  hd : PySem.W.hasDictIn K C = true
  po : PySem.W.plainOver K C = true
  sa : PySem.W.findIn K (.ref C) "__setattr__" = some (some (.builtin "object.__setattr__"))
theorem Cls.get {K : PySem.W.Frag} {C : Addr} (c : Cls K C) (f : Str) : PySem.W.plainGet K C f = true := c.pg
/-- no class of it has the name -/
def NoAttr (K : PySem.W.Frag) (C : Addr) (f : Str) : Prop := PySem.W.findIn K (.ref C) f = some none
theorem NoAttr.taker {K : PySem.W.Frag} {C : Addr} {f : Str} (n : NoAttr K C f) : PySem.W.takerIn K C f = some none := by
  unfold PySem.W.takerIn
  rw [show PySem.W.findIn K (.ref C) f = some none from n]
  rfl
/-- a method: a plain def of the class or of one above it -/
structure Meth (K : PySem.W.Frag) (C : Addr) (m : Str) (f : Addr) : Prop where
  at_ : PySem.W.findIn K (.ref C) m = some (some (.ref f))
  fn : PySem.W.isFn K (.ref f) = true
  kp : PySem.W.keepIn K (.ref f) = true
section
variable {X : Cx} {pins : List (Addr × Obj)} {σ : St} {H : Hp} {s : Shared} {a C dx : Addr} {fs : List (Str × V)} {f : Str} {v : V} {A : Around} {E : Value → Shared → Prop}
theorem getattr_ok {b : Bool} {Q : Value → Shared → Prop} (I : Inv X pins σ H s) (e : H a = some (.ins C dx fs)) (c : Cls X.K C) (n : NoAttr X.K C f) (l : fs.lookup f = some v)
    (h : ∀ u s', Inv X pins σ H s' → RelV v u → Q u s') : wpAny (model X.prog X.w) A (getAttr (.ref a) f b) Q E s := by
  obtain ⟨mA, O, r, _, _, _⟩ := ins_get I.hok e
  obtain ⟨u, hu, ru⟩ := RelO.some_of (v := v) (o := mA f) (by rw [← l]; exact r f)
  exact get_map I.kIn O (c.get f) c.hd n hu (handed_of ru) (h u _ (I.tok _) ru)
theorem getmeth_ok {m : Str} {g : Addr} {pl : Sem Bool} {Q : Value × List Value → Shared → Prop} (I : Inv X pins σ H s) (e : H a = some (.ins C dx fs)) (c : Cls X.K C) (k : Meth X.K C m g) (l : fs.lookup m = none)
    (h : Q (.ref g, [.ref a]) s) : wpAny (model X.prog X.w) A (getMethod (.ref a) m pl) Q E s := by
  obtain ⟨mA, O, r, _, _, _⟩ := ins_get I.hok e
  have hn : mA m = none := RelO.none_of (by rw [← l]; exact r m)
  exact get_meth I.kIn O (c.get m) k.at_ k.fn hn h
theorem setattr_ok {y : V} {u : Value} {Q : Unit → Shared → Prop} (I : Inv X pins σ H s) (e : H a = some (.ins C dx fs)) (c : Cls X.K C) (n : NoAttr X.K C f) (hl : fs.length < 1000) (ry : RelV y u)
    (h : ∀ s', Inv X pins σ (upd H a (.ins C dx (putF f y fs))) s' → Q () s') : wpAny (model X.prog X.w) A (setAttr (.ref a) f u) Q E s := by
  obtain ⟨mA, O, r, wi, _, ho⟩ := ins_get I.hok e
  have hz : (fs.map (·.1)).length ≤ sizeLine := by rw [List.length_map, sizeLine_eq]; omega
  refine set_map I.kIn O c.sa c.po n.taker c.hd wi hz fun h' O' sb => h _ ?_
  have hd : ∃ o, h'.get? dx = some o := let ⟨o, _, _, e', _⟩ := O'.ns; ⟨o, e'⟩
  refine I.write (x := a) (e := dx) (by rw [e]; exact True.intro) (.inr ho) (fun b q hb z => (sb.2 b hb).trans z) hd ?_
  refine ⟨by rw [upd_ne O.ne]; exact ho, ?_, O.ne, O'.obj, _, O'.ns, fun g => ?_, fun g hg => ?_⟩
  · have := length_putF f y fs; omega
  · show RelO ((putF f y fs).lookup g) (if g = f then some u else mA g)
    rw [lookup_putF]
    by_cases q : g = f
    · rw [if_pos q, if_pos q]; exact ry
    · rw [if_neg q, if_neg q]; exact r g
  · by_cases q : g = f
    · rw [q]; exact (keys_putF f y fs).1
    · refine (keys_putF f y fs).2 g (wi g fun z => hg ?_)
      show (if g = f then some u else mA g) = none
      rw [if_neg q]; exact z
/-- a new instance, tracked, without attributes -/
theorem Inv.made (I : Inv X pins σ H s) : Inv X pins σ (upd (upd H s.heap.objs.size (.own (s.heap.objs.size + 1))) (s.heap.objs.size + 1) (.ins C s.heap.objs.size []))
    { s with heap := (s.heap.push PySem.W.emptyDict).push (PySem.W.instObj C s.heap.objs.size) } := by
  have e1 : (s.heap.push PySem.W.emptyDict).get? s.heap.objs.size = some PySem.W.emptyDict := Heap.get?_push_size s.heap rfl
  have e2 : ((s.heap.push PySem.W.emptyDict).push (PySem.W.instObj C s.heap.objs.size)).get? (s.heap.objs.size + 1) = some (PySem.W.instObj C s.heap.objs.size) := by
    have := Heap.get?_push_size (s.heap.push PySem.W.emptyDict) (o := PySem.W.instObj C s.heap.objs.size) rfl
    rwa [Heap.size_push] at this
  have e3 : (s.heap.push PySem.W.emptyDict).Ns s.heap.objs.size (fun _ => none) := ⟨PySem.W.emptyDict, #[], _, e1, rfl, (fun e he => absurd he (by simp)), fun _ => rfl⟩
  have I1 := I.laid (a := s.heap.objs.size) (o := .own (s.heap.objs.size + 1)) (h' := s.heap.push PySem.W.emptyDict) (t' := s.toks) (fun b u q => Heap.get?_push_of_some _ q) (Nat.le_refl _) ⟨_, e1⟩
  refine I1.laid (a := s.heap.objs.size + 1) (o := .ins C s.heap.objs.size []) (t' := s.toks) (fun b u q => Heap.get?_push_of_some _ q) (Nat.le_of_eq (Heap.size_push _ _)) ?_
  have ne : s.heap.objs.size ≠ s.heap.objs.size + 1 := Nat.ne_of_lt (Nat.lt_succ_self _)
  refine ⟨by rw [upd_ne ne, upd_same], Nat.zero_le _, ne, e2, fun _ => none, (Heap.Ns1.of_empty e3).at fun o q => Heap.get?_push_of_some _ q, fun _ => True.intro, fun y hy => absurd rfl hy⟩
/-- e.f where nothing but the object is asked: through attributeBase (super) and the last hold -/
theorem attr_of {prog : Program} {w : World} {env : Env} {e : Expr} {f : Str} {pos : Pos} {s : Shared} {Q : Value → Shared → Prop} (hb : attributeBase e f env (eval e env) = eval e env)
    (h : wpAny (model prog w) A (eval e env) (fun o s₁ => wpAny (model prog w) A (getAttr o f true) Q E s₁) E s) : wpAny (model prog w) A (eval (.Attribute e f pos) env) Q E s :=
  Attribute_any_ h (by rw [arm_eval_Attribute, hb])
end
/-- e.f, an attribute of the instance -/
def tFld (K : PySem.W.Frag) (ta : TE) (f : Str) : TE := fun σ H Q => ta σ H fun x H1 => ∃ a C dx fs v, x = .ref a ∧ H1 a = some (.ins C dx fs) ∧ Cls K C ∧ NoAttr K C f ∧ fs.lookup f = some v ∧ Q v H1
/-- e.f = value -/
def sFld (K : PySem.W.Frag) (ta tv : TE) (f : Str) : TS := fun D σ H => tv σ H fun y H1 => ta σ H1 fun x H2 => ∃ a C dx fs, x = .ref a ∧ H2 a = some (.ins C dx fs) ∧ Cls K C ∧ NoAttr K C f ∧ fs.length < 1000 ∧
  D.nx σ (upd H2 a (.ins C dx (putF f y fs)))
section
variable {X : Cx} {o e value : Expr} {f : Str} {pos pos' tpos : Pos} {ta tv : TE}
theorem pe_fld (he : PE X e ta) (hb : attributeBase e f X.env (eval e X.env) = eval e X.env) : PE X (.Attribute e f pos) (tFld X.K ta f) := by
  intro pins s σ H Q I h
  refine attr_of hb (thn (he pins s σ H _ I h) fun u s1 ⟨x, H1, I1, rx, a, C, dx, fs, v, ex, ea, c, n, l, q⟩ => ?_)
  subst ex
  obtain rfl : u = Value.ref a := rx
  exact getattr_ok I1 ea c n l fun u' s2 I2 ru => ⟨v, H1, I2, ru, q⟩
theorem ps_fld (ha : PE X o ta) (hv : PE X value tv) (hs : swapsWith value (some (.Attribute o f pos')) pos.line X.env = pure false) : PS X (.Assign [.Attribute o f pos'] value pos) (sFld X.K ta tv f) := by
  intro pins s σ H D I h
  refine plainObj_wpAny_Assign_Attribute (thn (hv pins s σ H _ I h) fun u s1 ⟨y, H1, I1, ry, q⟩ => thn (ha pins s1 σ H1 _ I1 q) fun ov s2 ⟨x, H2, I2, rx, a, C, dx, fs, ex, ea, c, n, l, q2⟩ => ?_) hs
  subst ex
  obtain rfl : ov = Value.ref a := rx
  exact setattr_ok I2 ea c n l ry fun s3 I3 => ⟨σ, _, I3, q2⟩
end
section
variable {X : Cx} {pins : List (Addr × Obj)} {σ : St} {H : Hp} {s : Shared} {A : Around} {E : Value → Shared → Prop} {Q : Value → Shared → Prop} {c : Value} {b : Bool}
/-- the type of a value, as the fragment's deciders take it; for an instance its class -/
inductive TyOf (K : PySem.W.Frag) (H : Hp) : V → Value → Prop where
  | non : TyOf K H .non (.type "NoneType")
  | bl (x : Bool) : TyOf K H (.bl x) (.type "bool")
  | int (i : Int) : TyOf K H (.int i) (.type "int")
  | str (x : Str) : TyOf K H (.str x) (.type "str")
  | flt (x : UInt64) : TyOf K H (.flt x) (.type "float")
  | lst {a : Addr} {xs : List V} (e : H a = some (.lst xs)) : TyOf K H (.ref a) (.type "list")
  | frz {a : Addr} {o : Obj} {xs : List V} (e : H a = some (.frz o (.lst xs))) : TyOf K H (.ref a) (.type "list")
  | tup {a : Addr} {xs : List V} (e : H a = some (.tup xs)) : TyOf K H (.ref a) (.type "tuple")
  | dK {a : Addr} {kvs : List (Key × V)} (e : H a = some (.dK kvs)) : TyOf K H (.ref a) (.type "dict")
  | dT {a : Addr} {kvs : List (List Key × V)} (e : H a = some (.dT kvs)) : TyOf K H (.ref a) (.type "dict")
  | ins {a C dx : Addr} {fs : List (Str × V)} (e : H a = some (.ins C dx fs)) (cl : Cls K C) (ha : PySem.W.findIn K (.ref C) "__class__" = some (some (.builtin "object.__class__")))
      (hn : PySem.W.specialIn K (.builtin "object.__class__") "__get__" = some (some (.builtin "getset_descriptor.__get__"))) (htk : PySem.W.takesIn K (.builtin "object.__class__") = some true)
      (hm : PySem.W.mroIn K C (.type "object") = some true) : TyOf K H (.ref a) (.ref C)
/-- isinstance(x, c) for one class c, a built-in or an own one: kitOne's answer -/
theorem isinst_ok {x : V} {u t : Value} (I : Inv X pins σ H s) (rx : RelV x u) (ty : TyOf X.K H x t) (e : PySem.W.kitOne X.K t c = some b) (h : ∀ tk, Q (.bool b) { s with toks := tk }) :
    wpAny (model X.prog X.w) A (call (.builtin "isinstance") [u, c]) Q E s := by
  cases ty with
  | non => cases (show u = Value.none from rx); exact PySem.W.kia_one PySem.W.kitx_none I.kIn True.intro e (fun z => nomatch z) h
  | bl y => cases (show u = Value.bool y from rx); exact PySem.W.kia_one PySem.W.kitx_bool I.kIn True.intro e (fun z => nomatch z) h
  | int i => obtain ⟨t, q⟩ := (show ∃ t, u = Value.int i t from rx); cases q; exact PySem.W.kia_one PySem.W.kitx_int I.kIn True.intro e (fun z => nomatch z) h
  | str y => obtain ⟨t, q⟩ := (show ∃ t, u = Value.str y t from rx); cases q; exact PySem.W.kia_one PySem.W.kitx_str I.kIn True.intro e (fun z => nomatch z) h
  | flt y => obtain ⟨t, q⟩ := (show ∃ t, u = Value.float y t from rx); cases q; exact PySem.W.kia_one PySem.W.kitx_float I.kIn True.intro e (fun z => nomatch z) h
  | @lst a xs ea =>
    cases (show u = Value.ref a from rx)
    obtain ⟨_, _, n, _, h1⟩ := (show ObjOk X.prog X.w H s.heap a (.lst xs) from I.hok a _ ea)
    exact PySem.W.kia_one PySem.W.kitx_list I.kIn ⟨_, h1, rfl⟩ e (fun z => nomatch z) h
  | @frz a ob xs ea =>
    cases (show u = Value.ref a from rx)
    obtain ⟨_, _, _, n, _, h1⟩ := (show ObjOk X.prog X.w H s.heap a (.frz ob (.lst xs)) from I.hok a _ ea)
    exact PySem.W.kia_one PySem.W.kitx_list I.kIn ⟨_, h1, rfl⟩ e (fun z => nomatch z) h
  | @tup a xs ea =>
    cases (show u = Value.ref a from rx)
    obtain ⟨_, _, _, p⟩ := (show ObjOk X.prog X.w H s.heap a (.tup xs) from I.hok a _ ea)
    obtain ⟨o, h1, h2, _⟩ := p
    exact PySem.W.kia_one PySem.W.kitx_tuple I.kIn ⟨o, h1, h2⟩ e (fun z => nomatch z) h
  | @dK a kvs ea =>
    cases (show u = Value.ref a from rx)
    obtain ⟨_, _, vs, _, p⟩ := (show ObjOk X.prog X.w H s.heap a (.dK kvs) from I.hok a _ ea)
    obtain ⟨o, es, ep, h1, h2, _⟩ := p
    exact PySem.W.kia_one PySem.W.kitx_dict I.kIn ⟨o, h1, h2.1⟩ e (fun z => nomatch z) h
  | @dT a kvs ea =>
    cases (show u = Value.ref a from rx)
    obtain ⟨_, _, xs, _, o, es, ep, h1, h2, _⟩ := (show ObjOk X.prog X.w H s.heap a (.dT kvs) from I.hok a _ ea)
    exact PySem.W.kia_one PySem.W.kitx_dict I.kIn ⟨o, h1, h2.1⟩ e (fun z => nomatch z) h
  | @ins a C dx fs ea cl ha hn htk hm =>
    cases (show u = Value.ref a from rx)
    obtain ⟨mA, O, _⟩ := ins_get I.hok ea
    obtain ⟨od, J, _⟩ := O.look
    exact PySem.W.kia_one (PySem.W.kitx_own (cl.get _) cl.hd ha hn htk hm) I.kIn J e (fun z => nomatch z) h
end
end L2
namespace L2
open PySem PySem.Spec PyProof.Rows
structure Room (k : Nat) (A : Around) : Prop where
  hd : A.handled = none
  dp : A.depth + 3 * k + 5 < recursionLimit
  un : A.units + 16 * k + 200 < cLine
theorem Room.mono {j k : Nat} {A : Around} (r : Room k A) (h : j ≤ k) : Room j A := ⟨r.hd, by have := r.dp; omega, by have := r.un; omega⟩
theorem Room.deeper {k : Nat} {A : Around} (r : Room (k + 1) A) (env : Env) : Room k (A.deeper env) :=
  ⟨r.hd, by have := r.dp; show A.depth + 1 + 3 * k + 5 < _; omega, by have := r.un; show A.units + 3 + 16 * k + 200 < _; omega⟩
theorem Room.in1 {k : Nat} {A : Around} (r : Room (k + 1) A) : Room k A.in1 :=
  ⟨r.hd, by have := r.dp; show A.depth + 3 * k + 5 < _; omega, by have := r.un; show A.units + 1 + 16 * k + 200 < _; omega⟩
theorem make_depth {A : Around} {C : Addr} {us : List Value} {kw : List (Str × Value)} : (A.under (.builtin "type.__call__" ⟨.ref C :: us, kw⟩)).depth = A.depth + 1 := by
  first | rfl | simp [Around.under, Code.weight, Code.isCreation, Code.isGuard, Code.isCaller, Code.frames, Code.isFrame, guardIds]
theorem make_units {A : Around} {C : Addr} {us : List Value} {kw : List (Str × Value)} : (A.under (.builtin "type.__call__" ⟨.ref C :: us, kw⟩)).units = A.units + 1 := by
  first | rfl | simp [Around.under, Code.cUnits, Code.frames, Code.isFrame]
theorem Room.make {k : Nat} {A : Around} (r : Room (k + 1) A) (C : Addr) (us : List Value) (kw : List (Str × Value)) : Room k (A.under (.builtin "type.__call__" ⟨.ref C :: us, kw⟩)) :=
  ⟨r.hd, by have := r.dp; rw [make_depth]; omega, by have := r.un; rw [make_units]; omega⟩
theorem Room.depth {k : Nat} {A : Around} (r : Room k A) : A.depth < recursionLimit := by have := r.dp; omega
theorem Room.units {k : Nat} {A : Around} (r : Room k A) : A.units + 64 < cLine := by have := r.un; omega
def tNil : TA := fun _ H Q => Q [] H
def tCons (ta : TE) (tr : TA) : TA := fun σ H Q => ta σ H fun x H1 => tr σ H1 fun xs H2 => Q (x :: xs) H2
section
variable {X : Cx} {e : Expr} {es : List Expr} {te : TE} {t : TA} {pos : Pos}
theorem pa_nil : PA X [] tNil := fun _ _ _ _ H Q I h => Calls.spliced_nil ⟨[], H, I, .nil, h⟩
theorem pa_cons (ha : PE X e te) (hr : PA X es t) (hs : starEach (e :: es) X.env = (false, eval e X.env) :: starEach es X.env := by rfl) : PA X (e :: es) (tCons te t) := by
  intro pos pins s σ H Q I h
  rw [hs]
  show wpAny _ _ (spliced ((false, eval e X.env) :: backTo pos (starEach es X.env))) _ _ s
  refine Calls.spliced_cons (thn (ha pins s σ H _ I h) fun u s1 ⟨x, H1, I1, r1, q1⟩ => ?_)
  exact thn (hr pos pins s1 σ H1 _ I1 q1) fun us s2 ⟨xs, H2, I2, r2, q2⟩ => ⟨x :: xs, H2, I2, .cons r1 r2, q2⟩
/-- a tuple, a list of written items -/
def tTup (t : TA) : TE := fun σ H Q => t σ H fun xs H1 => xs.length ≤ sizeLine ∧ ∀ p, H1 p = none → Q (.ref p) (upd H1 p (.tup xs))
def tLst (t : TA) : TE := fun σ H Q => t σ H fun xs H1 => xs.length ≤ sizeLine ∧ ∀ p, H1 p = none → Q (.ref p) (upd H1 p (.lst xs))
theorem pe_tup {x1} (h : PA X es t) : PE X (.Tuple es x1 pos) (tTup t) := by
  intro pins s σ H Q I hq
  refine wpAny_Tuple_spliced (thn (h pos pins s σ H _ I hq) fun us s1 ⟨xs, H1, I1, r, z, q⟩ => ⟨by rw [← r.length]; exact z, ?_⟩)
  have hf : H1 s1.heap.objs.size = none := I1.hok.fresh (Nat.le_refl _)
  refine ⟨.ref s1.heap.objs.size, upd H1 s1.heap.objs.size (.tup xs), I1.laid (t' := s1.toks) (fun b u e => Heap.get?_push_of_some _ e) (Nat.le_refl _) ?_, rfl, q _ hf⟩
  exact ⟨z, us, r, ⟨_, Heap.get?_push_size _ rfl, rfl, _, rfl⟩⟩
theorem pe_lst (h : PA X es t) : PE X (.List es pos) (tLst t) := by
  intro pins s σ H Q I hq
  refine wpAny_List_spliced (thn (h pos pins s σ H _ I hq) fun us s1 ⟨xs, H1, I1, r, z, q⟩ => ⟨by rw [← r.length]; exact z, ?_⟩)
  have hf : H1 s1.heap.objs.size = none := I1.hok.fresh (Nat.le_refl _)
  refine ⟨.ref s1.heap.objs.size, upd H1 s1.heap.objs.size (.lst xs), I1.laid (t' := s1.toks) (fun b u e => Heap.get?_push_of_some _ e) (Nat.le_refl _) ?_, rfl, q _ hf⟩
  exact ⟨z, us, 0, r, Heap.get?_push_size _ rfl⟩
end
/-- a def's promise: the bound arguments in the parameters' order, the heap, the wanted end, the wanted exception -/
abbrev Sp := List V → Hp → VK → XK → Prop
/-- how an exception lies behind a call (file 08 gives it): the callers' frames, abstract heap and state ahead of the call, the wish, the exception, the state -/
abbrev CXT := List Env → Hp → Shared → XK → Value → Shared → Prop
/-- the state at a call -/
structure Env0 (P : Program) (w : World) (K : PySem.W.Frag) (mg : Str → Option Value) (base : Heap) (A : Around) (outer : List Env) (s : Shared) (H : Hp) : Prop where
  frames : A.frames = some outer
  mod : Mod K mg base
  bs : ∀ b o, base.get? b = some o → s.heap.get? b = some o ∧ H b = none
  bsz : base.objs.size ≤ s.heap.objs.size
  funs : s.heap.FunFrames base outer
  frf : ∀ b ∈ frs outer, H b = none
  hok : HOk P w H s.heap
  bare : AllBare s.gens
/-- a call's end -/
def CE (outer : List Env) (P : Program) (w : World) (H : Hp) (s : Shared) (Q : VK) (u : Value) (s' : Shared) : Prop :=
  ∃ v H', s'.os = s.os ∧ AllBare s'.gens ∧ Un (frs outer) [] H H' s.heap s'.heap ∧ HOk P w H' s'.heap ∧ RelV v u ∧ Q v H'
def CR (CX : CXT) (outer : List Env) (P : Program) (w : World) (H : Hp) (s : Shared) (Q : VK) (E : XK) (r : Result) (s' : Shared) : Prop :=
  match r with
  | .ok (.ret u) => CE outer P w H s Q u s'
  | .ok _ => False
  | .error e => CX outer H s E e s'
structure FnOk (P : Program) (w : World) (K : PySem.W.Frag) (mg : Str → Option Value) (base : Heap) (CX : CXT) (k : Nat) (f : Addr) (fd : FuncData) (ps : List Str) (sp : Sp) : Prop where
  len : ∀ vs H Q E, sp vs H Q E → vs.length = ps.length
  run : ∀ (A : Around) (outer : List Env) (s : Shared) (H : Hp) (args : Args) (us : List Value) (vs : List V) (Q : VK) (E : XK), Room k A → Env0 P w K mg base A outer s H → BindsTo s fd args (ps.zip us) → Vals vs us → sp vs H Q E →
    codeAny (model P w) A (.call (.ref f) args) (CR CX outer P w H s Q E) s
/-- a weaker promise -/
theorem FnOk.imp {P : Program} {w : World} {K : PySem.W.Frag} {mg : Str → Option Value} {base : Heap} {CX : CXT} {k : Nat} {f : Addr} {fd : FuncData} {ps : List Str} {sp sp' : Sp} (F : FnOk P w K mg base CX k f fd ps sp)
    (h : ∀ vs H Q E, sp' vs H Q E → sp vs H Q E) : FnOk P w K mg base CX k f fd ps sp' :=
  ⟨fun vs H Q E q => F.len vs H Q E (h _ _ _ _ q), fun A outer s H args us vs Q E hr he hb hv hs => F.run A outer s H args us vs Q E hr he hb hv (h _ _ _ _ hs)⟩
theorem Env0.make {P : Program} {w : World} {K : PySem.W.Frag} {mg : Str → Option Value} {base : Heap} {A : Around} {outer : List Env} {s : Shared} {H : Hp} (e : Env0 P w K mg base A outer s H) (C : Addr) (us : List Value) (kw : List (Str × Value)) :
    Env0 P w K mg base (A.under (.builtin "type.__call__" ⟨.ref C :: us, kw⟩)) outer s H := ⟨by first | exact e.frames | (simpa [Around.under, Code.envs, Code.isFrame, pushEnvs] using e.frames), e.mod, e.bs, e.bsz, e.funs, e.frf, e.hok, e.bare⟩
theorem Env0.in1 {P : Program} {w : World} {K : PySem.W.Frag} {mg : Str → Option Value} {base : Heap} {A : Around} {outer : List Env} {s : Shared} {H : Hp} (e : Env0 P w K mg base A outer s H) :
    Env0 P w K mg base A.in1 outer s H := ⟨e.frames, e.mod, e.bs, e.bsz, e.funs, e.frf, e.hok, e.bare⟩
section
variable {X : Cx} {pins : List (Addr × Obj)} {σ : St} {H : Hp} {s s' : Shared}
/-- from a body: what a callee wants -/
theorem Inv.env0 (I : Inv X pins σ H s) : Env0 X.prog X.w X.K X.mg X.base X.A X.stack s H :=
  ⟨I.ok.frames, I.ok.mod, I.bs, Nat.le_trans I.ok.bsz I.sz, I.stack, I.stkFree, I.hok, I.bare⟩
/-- behind a call -/
theorem Inv.after {Q : VK} {u : Value} (I : Inv X pins σ H s) (h : CE X.stack X.prog X.w H s Q u s') : EP X pins σ Q u s' := by
  obtain ⟨v, H', os, bare, un, hok, r, q⟩ := h
  obtain ⟨hh, g, d, t, os'⟩ := s'
  obtain rfl : os' = s.os := os
  exact ⟨v, H', I.call (h' := hh) (g' := g) (d' := d) (t' := t) (ch := []) un hok bare (fun b z => absurd z (by simp)), r, q⟩
end
/-- f(..): the written arguments, then the defaults dvs; E: what is wanted of an exception -/
def tCall (sp : Sp) (dvs : List V) (E : XK) (t : TA) : TE := fun σ H Q => t σ H fun vs H1 => sp (vs ++ dvs) H1 Q E
/-- o.m(..) of an instance of the class at C -/
def tMeth (C : Addr) (m : Str) (sp : Sp) (dvs : List V) (E : XK) (ta : TE) (t : TA) : TE := fun σ H Q => ta σ H fun x H1 => ∃ a dx fs, x = .ref a ∧ H1 a = some (.ins C dx fs) ∧ fs.lookup m = none ∧
  t σ H1 fun vs H2 => sp (x :: (vs ++ dvs)) H2 Q E
/-- C(..): a new instance and its dict, then __init__ -/
def tMake (C : Addr) (sp : Sp) (dvs : List V) (E : XK) (t : TA) : TE := fun σ H Q => t σ H fun vs H1 => ∀ x dx, H1 x = none → H1 dx = none → dx ≠ x →
  sp (.ref x :: (vs ++ dvs)) (upd (upd H1 dx (.own x)) x (.ins C dx [])) (fun v H2 => v = .non ∧ Q (.ref x) H2) E
/-- how the parameters are bound: us the positional arguments, kw the keywords' values by name, ds the defaults that fill up -/
def Binds (K : PySem.W.Frag) (fd : FuncData) (ps : List Str) (ds : List Value) : Prop :=
  ∀ (s : Shared) (us : List Value), K.In s.heap → (us ++ ds).length = ps.length → BindsTo s fd ⟨us, []⟩ (ps.zip (us ++ ds))
/-- every parameter is given -/
theorem Binds.all {K : PySem.W.Frag} {fd : FuncData} {ps : List Str} (h : ∀ us : List Value, us.length = ps.length → bindArgs fd ⟨us, []⟩ = pure (ps.zip us)) : Binds K fd ps [] := fun s us _ hl => by
  rw [List.append_nil] at hl ⊢
  exact .of_eq (h us hl)
/-- an exception of a callee reaches what this body wants of exceptions -/
def Passes (CX : CXT) (X : Cx) (E : XK) : Prop := ∀ (pins : List (Addr × Obj)) (σ : St) (H : Hp) (s : Shared) (e : Value) (s' : Shared), Inv X pins σ H s → CX X.stack H s E e s' → X.xe e s'
section
variable {X : Cx} {CX : CXT} {k : Nat} {f C : Addr} {fd : FuncData} {ps : List Str} {sp : Sp} {dvs : List V} {ds : List Value} {E : XK} {x m : Str} {p pos apos : Pos} {e o : Expr} {es : List Expr} {ta : TE} {t : TA}
/-- the callee runs -/
theorem run_fn {pins : List (Addr × Obj)} {σ : St} {H : Hp} {s : Shared} {Q : VK} {us : List Value} {vs : List V} (F : FnOk X.prog X.w X.K X.mg X.base CX k f fd ps sp) (hr : Room k X.A) (hb : Binds X.K fd ps ds) (hd : Vals dvs ds) (hx : Passes CX X E)
    (I : Inv X pins σ H s) (r : Vals vs us) (h : sp (vs ++ dvs) H Q E) : wpAny (model X.prog X.w) X.A (call (.ref f) us) (EP X pins σ Q) X.xe s := by
  have r2 : Vals (vs ++ dvs) (us ++ ds) := r.append hd
  have hl : (us ++ ds).length = ps.length := by rw [← r2.length]; exact F.len _ _ _ _ h
  refine wpAny_call (codeAny_mono (F.run X.A X.stack s H ⟨us, []⟩ (us ++ ds) (vs ++ dvs) Q E hr I.env0 (hb s us I.kIn hl) r2 h) fun r s' hq => ?_)
  cases r with
  | error e => exact hx pins σ H s e s' I hq
  | ok fl =>
    cases fl with
    | ret u => exact I.after hq
    | next => exact False.elim hq
    | brk => exact False.elim hq
    | cont => exact False.elim hq
theorem pe_call (F : FnOk X.prog X.w X.K X.mg X.base CX k f fd ps sp) (hr : Room k X.A) (hg : Gl X x) (hm : X.mg x = some (.ref f)) (hk : PySem.W.keepIn X.K (.ref f) = true) (hb : Binds X.K fd ps ds) (hd : Vals dvs ds) (hx : Passes CX X E)
    (ha : PA X (e :: es) t) (hdb : (x == ("__debug__" : Str)) = false := by decide) (he : starEach (e :: es) X.env = (false, eval e X.env) :: starEach es X.env := by rfl) (hpl : (backTo pos (starEach es X.env)).any (·.1) = false := by rfl) :
    PE X (.Call (.Name x p) (e :: es) [] pos) (tCall sp dvs E t) := by
  intro pins s σ H Q I h
  refine wpAny_Call_Name_kw (ld_glob I hg hm ?_ hdb)
  refine PySem.W.callWith_K (h₀ := X.base) I.ok.mod.kin hk (thn (ha pos pins s σ H _ I h) fun us s1 ⟨vs, H1, I1, r, q⟩ => ⟨I1.kIn, ?_⟩) he hpl
  exact run_fn F hr hb hd hx I1 r q
/-- o.m(e, ..) -/
theorem pe_meth {pl : Sem Bool} (he : PE X o ta) (c : Cls X.K C) (hm : Meth X.K C m f) (F : FnOk X.prog X.w X.K X.mg X.base CX k f fd ps sp) (hr : Room k X.A) (hb : Binds X.K fd ps ds) (hd : Vals dvs ds) (hx : Passes CX X E) (ha : PA X (e :: es) t)
    (hst : starEach (e :: es) X.env = (false, eval e X.env) :: starEach es X.env := by rfl) (hpl : (backTo pos (starEach es X.env)).any (·.1) = false := by rfl)
    (ht : eval (.Call (.Attribute o m apos) (e :: es) [] pos) X.env = (do
      let ov ← eval o X.env
      standAt apos.atName
      let (f, first) ← holding [ov] (getMethod ov m pl)
      callWith pos f first (backTo pos (starEach (e :: es) X.env)) (backToKw pos (keywordEach [] X.env))) := by rfl) :
    PE X (.Call (.Attribute o m apos) (e :: es) [] pos) (tMeth C m sp dvs E ta t) := by
  intro pins s σ H Q I h
  refine PySem.W.methodCall_KW (pl := pl) (thn (he pins s σ H _ I h) fun u s1 ⟨x, H1, I1, rx, a, dx, fs, ex, ea, l, q⟩ => ?_) ht
  subst ex
  obtain rfl : u = Value.ref a := rx
  refine getmeth_ok I1 ea c hm l ?_
  refine PySem.W.callWith_K (first := [.ref a]) (h₀ := X.base) I.ok.mod.kin hm.kp (thn (ha pos pins s1 σ H1 _ I1 q) fun us s2 ⟨vs, H2, I2, r, q2⟩ => ⟨I2.kIn, ?_⟩) hst hpl
  exact run_fn (us := .ref a :: us) (vs := .ref a :: vs) F hr hb hd hx I2 (.cons rfl r) q2
/-- o.m() -/
theorem pe_meth0 {pl : Sem Bool} (he : PE X o ta) (c : Cls X.K C) (hm : Meth X.K C m f) (F : FnOk X.prog X.w X.K X.mg X.base CX k f fd ps sp) (hr : Room k X.A) (hb : Binds X.K fd ps ds) (hd : Vals dvs ds) (hx : Passes CX X E)
    (ht : eval (.Call (.Attribute o m apos) [] [] pos) X.env = (do
      let ov ← eval o X.env
      standAt apos.atName
      let (f, first) ← holding [ov] (getMethod ov m pl)
      callWith pos f first (backTo pos (starEach [] X.env)) (backToKw pos (keywordEach [] X.env))) := by rfl) :
    PE X (.Call (.Attribute o m apos) [] [] pos) (tMeth C m sp dvs E ta tNil) := by
  intro pins s σ H Q I h
  refine PySem.W.methodCall_KW (pl := pl) (thn (he pins s σ H _ I h) fun u s1 ⟨x, H1, I1, rx, a, dx, fs, ex, ea, l, q⟩ => ?_) ht
  subst ex
  obtain rfl : u = Value.ref a := rx
  refine getmeth_ok I1 ea c hm l ?_
  exact PySem.W.callWith_K0 (first := [.ref a]) I1.kIn hm.kp (run_fn (us := [.ref a]) (vs := [.ref a]) F hr hb hd hx I1 (.cons rfl .nil) q)
/-- what a class must have to be made -/
structure Mk (K : PySem.W.Frag) (C f : Addr) : Prop where
  makes : PySem.W.makesIn K C = true
  init : PySem.W.findIn K (.ref C) "__init__" = some (some (.ref f))
  fn : PySem.W.isFn K (.ref f) = true
  kp : PySem.W.keepIn K (.ref C) = true
theorem run_make {pins : List (Addr × Obj)} {σ : St} {H : Hp} {s : Shared} {Q : VK} {us : List Value} {vs : List V} (M : Mk X.K C f) (F : FnOk X.prog X.w X.K X.mg X.base CX k f fd ps sp) (hr : Room (k + 1) X.A) (hb : Binds X.K fd ps ds) (hd : Vals dvs ds)
    (hx : Passes CX X E) (I : Inv X pins σ H s) (r : Vals vs us)
    (h : ∀ x dx, H x = none → H dx = none → dx ≠ x → sp (.ref x :: (vs ++ dvs)) (upd (upd H dx (.own x)) x (.ins C dx [])) (fun v H2 => v = .non ∧ Q (.ref x) H2) E) :
    wpAny (model X.prog X.w) X.A (call (.ref C) us) (EP X pins σ Q) X.xe s := by
  have hq := h (s.heap.objs.size + 1) s.heap.objs.size (I.hok.fresh (Nat.le_succ _)) (I.hok.fresh (Nat.le_refl _)) (Nat.ne_of_lt (Nat.lt_succ_self _))
  have I2 := Inv.made (C := C) I
  have r2 : Vals (V.ref (s.heap.objs.size + 1) :: (vs ++ dvs)) (Value.ref (s.heap.objs.size + 1) :: (us ++ ds)) := .cons rfl (r.append hd)
  have hl : (Value.ref (s.heap.objs.size + 1) :: us ++ ds).length = ps.length := by
    have e := r2.length
    rw [F.len _ _ _ _ hq] at e
    exact e.symm
  refine wpAny_call (make_map (f := f) I.kIn M.makes M.init (beq_iff_eq.mp M.fn) (codeAny_mono (F.run _ X.stack _ _ ⟨Value.ref (s.heap.objs.size + 1) :: us, []⟩ (Value.ref (s.heap.objs.size + 1) :: (us ++ ds)) _ _ E (hr.make C us [])
    (I2.env0.make C us []) (hb _ (Value.ref (s.heap.objs.size + 1) :: us) I2.kIn hl) r2 hq) fun r s' hq' => ?_))
  cases r with
  | error e => exact hx pins σ _ _ e s' I2 hq'
  | ok fl =>
    cases fl with
    | ret u =>
      obtain ⟨v, H', I3, rv, ev, q3⟩ := I2.after hq'
      subst ev
      exact ⟨rv, ⟨V.ref (s.heap.objs.size + 1), H', I3, rfl, q3⟩⟩
    | next => exact False.elim hq'
    | brk => exact False.elim hq'
    | cont => exact False.elim hq'
theorem pe_make (M : Mk X.K C f) (F : FnOk X.prog X.w X.K X.mg X.base CX k f fd ps sp) (hr : Room (k + 1) X.A) (hg : Gl X x) (hm : X.mg x = some (.ref C)) (hb : Binds X.K fd ps ds) (hd : Vals dvs ds) (hx : Passes CX X E)
    (ha : PA X (e :: es) t) (hdb : (x == ("__debug__" : Str)) = false := by decide) (he : starEach (e :: es) X.env = (false, eval e X.env) :: starEach es X.env := by rfl) (hpl : (backTo pos (starEach es X.env)).any (·.1) = false := by rfl) :
    PE X (.Call (.Name x p) (e :: es) [] pos) (tMake C sp dvs E t) := by
  intro pins s σ H Q I h
  refine wpAny_Call_Name_kw (ld_glob I hg hm ?_ hdb)
  refine PySem.W.callWith_K (h₀ := X.base) I.ok.mod.kin M.kp (thn (ha pos pins s σ H _ I h) fun us s1 ⟨vs, H1, I1, r, q⟩ => ⟨I1.kIn, ?_⟩) he hpl
  exact run_make M F hr hb hd hx I1 r q
end
/-- the values of the keywords, from the left -/
def PK (X : Cx) (kws : List Keyword) (t : TA) : Prop :=
  ∀ (pos : Pos) (pins : List (Addr × Obj)) (s : Shared) (σ : St) (H : Hp) (Q : List V → Hp → Prop), Inv X pins σ H s → t σ H Q → wpAny (model X.prog X.w) X.A (evalAll ((backToKw pos (keywordEach kws X.env)).map (·.2))) (AP X pins σ Q) X.xe s
section
variable {X : Cx} {CX : CXT} {k : Nat} {f C : Addr} {fd : FuncData} {ps ks : List Str} {sp : Sp} {E : XK} {x m : Str} {p pos apos kpos : Pos} {e o : Expr} {es : List Expr} {kws : List Keyword} {te ta : TE} {t tk : TA} {nm : Option Str}
theorem pk_nil : PK X [] tNil := fun _ _ _ _ H Q I h => wpAny_evalAll_nil ⟨[], H, I, .nil, h⟩
theorem pk_cons (ha : PE X e te) (hr : PK X kws t) : PK X (⟨nm, e, kpos⟩ :: kws) (tCons te t) := by
  intro pos pins s σ H Q I h
  show wpAny _ _ (evalAll ((do let v ← eval e X.env; standAt pos; pure v) :: (backToKw pos (keywordEach kws X.env)).map (·.2))) _ _ s
  refine wpAny_evalAll_cons (wpAny_bind (thn (ha pins s σ H _ I h) fun u s1 ⟨x, H1, I1, r1, q1⟩ => wpAny_bind (wpAny_standAt (wpAny_pure ?_))))
  exact thn (hr pos pins s1 σ H1 _ I1 q1) fun us s2 ⟨xs, H2, I2, r2, q2⟩ => ⟨x :: xs, H2, I2, .cons r1 r2, q2⟩
variable {g : List Value → List Value → List Value} {gV : List V → List V → List V}
end
/-- names: the parameters first -/
structure FnScope (N P : List Str) (sc : Scope) : Prop where
  kind : sc.kind = .function
  co : sc.isCoroutine = false
  gen : sc.isGenerator = false
  nd : N.Nodup
  pre : N.take P.length = P
  par : ∀ x ∈ P, sc.names.lookup x = some .local ∨ sc.names.lookup x = some .cell
  nofree : ∀ y ∈ sc.names, y.2 ≠ .free
theorem bindL_out {kindOf : Str → Option NameKind} {x : Str} : ∀ {binds : List (Str × Value)} {m : Str → Option Value}, (∀ v, (x, v) ∉ binds) → bindL kindOf binds m x = m x
  | [], _, _ => rfl
  | (n, v) :: r, m, h => by
    unfold bindL
    rw [bindL_out fun w hw => h w (List.mem_cons_of_mem _ hw)]
    split
    · have : x ≠ n := by rintro rfl; exact h v List.mem_cons_self
      simp [this]
    · rfl
theorem bindC_out {kindOf : Str → Option NameKind} {x : Str} : ∀ {binds : List (Str × Value)} {m : Str → Option Value}, (∀ v, (x, v) ∉ binds) → bindC kindOf binds m x = m x
  | [], _, _ => rfl
  | (n, v) :: r, m, h => by
    unfold bindC
    rw [bindC_out fun w hw => h w (List.mem_cons_of_mem _ hw)]
    split
    · rfl
    · have : x ≠ n := by rintro rfl; exact h v List.mem_cons_self
      simp [this]
theorem bindL_get {kindOf : Str → Option NameKind} {x : Str} {v : Value} : ∀ {P : List Str} {vs : List Value} {i : Nat} {m : Str → Option Value}, P.Nodup → P[i]? = some x → vs[i]? = some v → kindOf x = some .local →
    bindL kindOf (P.zip vs) m x = some v
  | [], _, _, _, _, h, _, _ => by simp at h
  | _ :: _, [], _, _, _, _, h, _ => by simp at h
  | p :: P, w :: vs, 0, m, nd, h1, h2, hk => by
    simp at h1 h2; subst h1; subst h2
    show bindL kindOf ((p, w) :: P.zip vs) m p = _
    unfold bindL
    rw [bindL_out fun v hv => (List.nodup_cons.mp nd).1 (List.of_mem_zip hv).1, if_pos hk]
    simp
  | p :: P, w :: vs, i + 1, m, nd, h1, h2, hk => by
    show bindL kindOf ((p, w) :: P.zip vs) m x = _
    unfold bindL
    exact bindL_get (i := i) (List.nodup_cons.mp nd).2 (by simpa using h1) (by simpa using h2) hk
theorem bindC_get {kindOf : Str → Option NameKind} {x : Str} {v : Value} : ∀ {P : List Str} {vs : List Value} {i : Nat} {m : Str → Option Value}, P.Nodup → P[i]? = some x → vs[i]? = some v → kindOf x ≠ some .local →
    bindC kindOf (P.zip vs) m x = some v
  | [], _, _, _, _, h, _, _ => by simp at h
  | _ :: _, [], _, _, _, _, h, _ => by simp at h
  | p :: P, w :: vs, 0, m, nd, h1, h2, hk => by
    simp at h1 h2; subst h1; subst h2
    show bindC kindOf ((p, w) :: P.zip vs) m p = _
    unfold bindC
    rw [bindC_out fun v hv => (List.nodup_cons.mp nd).1 (List.of_mem_zip hv).1, if_neg hk]
    simp
  | p :: P, w :: vs, i + 1, m, nd, h1, h2, hk => by
    show bindC kindOf ((p, w) :: P.zip vs) m x = _
    unfold bindC
    exact bindC_get (i := i) (List.nodup_cons.mp nd).2 (by simpa using h1) (by simpa using h2) hk
/-- the names' values at the entry -/
def start (N : List Str) (vs : List V) : St := vs.map some ++ List.replicate (N.length - vs.length) none
/-- the context of a def's body, at its entry; an exception leaves the frame, then lies as CX says -/
def cxOf (CX : CXT) (P : Program) (w : World) (K : PySem.W.Frag) (mg : Str → Option Value) (base : Heap) (N : List Str) (qual : Str) (scope : Scope) (f : Addr) (cd : Value) (A : Around) (outer : List Env) (s : Shared) (H : Hp) (E : XK) : Cx where
  prog := P
  w := w
  K := K
  mg := mg
  base := base
  A := A.deeper (envOfC qual scope s.heap.objs.size f cd)
  N := N
  s₀ := s
  H₀ := H
  env := envOfC qual scope s.heap.objs.size f cd
  outer := outer
  stack := envOfC qual scope s.heap.objs.size f cd :: outer
  ex := []
  calm := true
  fn := fun _ => true
  pn := []
  xe := fun e s' => wpAny (model P w) (A.deeper (envOfC qual scope s.heap.objs.size f cd)) (leaving (envOfC qual scope s.heap.objs.size f cd) e) (fun _ s'' => CX outer H s E e s'') (fun e' s'' => CX outer H s E e' s'') s'
theorem cell_has {sc : Scope} {n : Nat} {x : Str} (h : sc.names.lookup x = some .cell) : ∃ c, (cellsFrom n sc.names []).lookup x = some c := by
  have q := PySem.W.cellsFrom_some sc.names n [] (.inl h)
  exact Option.isSome_iff_exists.mp q
theorem inv_start {CX : CXT} {P : Program} {w : World} {K : PySem.W.Frag} {mg : Str → Option Value} {base : Heap} {N ps : List Str} {qual : Str} {scope : Scope} {f : Addr} {cd : Value} {A : Around} {outer : List Env} {s s1 : Shared} {H : Hp} {E : XK} {us : List Value} {vs : List V}
    (S : FnScope N ps scope) (hd : A.handled = none) (e0 : Env0 P w K mg base A outer s H) (hl : vs.length = ps.length) (r : Vals vs us)
    (x : InCallC s s.heap.objs.size (bindL (envOfC qual scope s.heap.objs.size f cd).kindOf (ps.zip us) fun _ => none) (cellsFrom (s.heap.objs.size + 1) scope.names []) (bindC (envOfC qual scope s.heap.objs.size f cd).kindOf (ps.zip us) fun _ => none) s1) :
    Inv (cxOf CX P w K mg base N qual scope f cd A outer s H E) [] (start N vs) H s1 := by
  have hpl : ps.length ≤ N.length := by have := congrArg List.length S.pre; rw [List.length_take] at this; omega
  obtain ⟨h1, tk, rfl, hk⟩ := x.done
  have noA : ∀ b : Addr, b ∉ (cxOf CX P w K mg base N qual scope f cd A outer s H E).ex := fun b z => absurd (show b ∈ ([] : List Addr) from z) (by simp)
  refine ⟨⟨e0.mod, S.kind, rfl, rfl, Nat.le_refl _, fun y z c h1 h2 => ?_, fun y hy => ?_, fun y c _ h => ?_, fun _ => hd, Around.frames_deeper e0.frames, .inr ⟨rfl, rfl⟩, fun b z => absurd z (noA b), e0.bs, e0.bsz, fun b _ _ => noA b, fun b z => absurd z (noA b), e0.funs, e0.frf⟩,
    rfl, e0.bare, Un.kept hk, ⟨_, x.toInCall.ns, fun i y v h1 h2 h3 => ?_⟩, fun y c h => ⟨_, x.cell y c h⟩, e0.hok.fresh (Nat.le_refl _), fun y c h => ?_, fun p hp => absurd (show p ∈ ([] : List (Addr × Obj)) from hp) (by simp), e0.hok.kept hk, ?_⟩
  · exact name_of_addr x.apart (PySem.mem_of_lookup h1) (PySem.mem_of_lookup h2)
  · have hy : scope.names.lookup y = some .cell ∨ scope.names.lookup y = some .free := hy
    rcases hy with hy | hy
    · exact cell_has hy
    · exact absurd rfl (S.nofree _ (PySem.mem_of_lookup hy))
  · exact Nat.le_of_lt (x.above y c (PySem.mem_of_lookup h))
  · have hi : i < vs.length := by
      unfold start at h2
      by_cases hi : i < vs.length
      · exact hi
      · rw [List.getElem?_append_right (by simpa using hi)] at h2
        rw [List.getElem?_replicate] at h2
        split at h2 <;> cases h2
    have ha : vs[i]? = some v := by
      unfold start at h2
      rw [List.getElem?_append_left (by simpa using hi), List.getElem?_map] at h2
      cases e : vs[i]? with
      | none => rw [e] at h2; cases h2
      | some a => rw [e] at h2; cases h2; rfl
    obtain ⟨u, hu, rv⟩ := r.get ha
    have hp : ps[i]? = some y := by
      rw [← S.pre, List.getElem?_take_of_lt (by omega)]; exact h1
    have ndP : ps.Nodup := by rw [← S.pre]; exact S.nd.sublist (List.take_sublist _ _)
    refine ⟨u, rv, ?_⟩
    rcases S.par y (List.mem_of_getElem? hp) with k | k
    · exact .inl ⟨k, bindL_get ndP hp hu k⟩
    · obtain ⟨c, e⟩ := cell_has (n := s.heap.objs.size + 1) k
      refine .inr ⟨.inl k, c, e, ?_⟩
      have q := x.cell y c e
      rw [bindC_get ndP hp hu (by show scope.names.lookup y ≠ _; rw [k]; decide)] at q
      exact q
  · exact e0.hok.fresh (Nat.le_of_lt (x.above y c (PySem.mem_of_lookup h)))
  · unfold start
    show _ = N.length
    rw [List.length_append, List.length_map, List.length_replicate]
    omega
/-- THE RULE: a def (or a method) of the text, by its body. The body's reading t is chosen for each entry; it is run at the parameters' values -/
theorem fn_of {CX : CXT} {P : Program} {w : World} {K : PySem.W.Frag} {mg : Str → Option Value} {base : Heap} {k : Nat} {f : Addr} {name qual : Str} {params : Arguments} {body : List Stmt} {scope : Scope} {dV kV doc pm cdv ct oc : Value} {an od : Option Addr}
    {osl : Array (Option Value)} {N ps : List Str} {sp : Sp} (lk : K.lookup f = some ⟨oc, od, .func (PySem.W.fnOf name qual params body scope dV kV doc pm an cdv ct), osl⟩) (hcd : PySem.W.codeIn K cdv qual = true) (S : FnScope N ps scope)
    (len : ∀ vs H Q E, sp vs H Q E → vs.length = ps.length)
    (hbody : ∀ (A : Around) (outer : List Env) (s : Shared) (H : Hp) (vs : List V) (Q : VK) (E : XK), Room k (A.deeper (envOfC qual scope s.heap.objs.size f cdv)) → sp vs H Q E →
      ∃ t, PSs (cxOf CX P w K mg base N qual scope f cdv A outer s H E) body t ∧ t { nx := fun _ H' => Q .non H', rt := Q } (start N vs) H) :
    FnOk P w K mg base CX (k + 1) f (PySem.W.fnOf name qual params body scope dV kV doc pm an cdv ct) ps sp := by
  refine ⟨len, fun A outer s H args us vs Q E hr e0 hb r hsp => ?_⟩
  have hl := len _ _ _ _ hsp
  have KX : K.In s.heap := e0.mod.kin.keeps fun b o e => (e0.bs b o e).1
  have lim : s.heap.NoLimit := e0.mod.nolimit.keeps fun b o e => (e0.bs b o e).1
  have hkind : ∀ y ∈ ps.zip us, scope.names.lookup y.1 = some .local ∨ (scope.names.lookup y.1 = some .cell ∧ ((cellsFrom (s.heap.objs.size + 1) scope.names []).lookup y.1).isSome = true) := fun ⟨n, v⟩ hy => by
    rcases S.par n (List.of_mem_zip hy).1 with q | q
    · exact .inl q
    · exact .inr ⟨q, PySem.W.cellsFrom_some _ _ _ (.inl q)⟩
  refine codeAny_call_function hr.depth (KX _ _ lk) rfl S.co S.gen rfl (PySem.W.codeRec_of KX hcd) (hb _ _ _ _ ?_)
  refine wpAny_newFunctionEnv_cells S.kind hkind fun env he s1 x => ?_
  subst he
  refine ⟨lim.keeps x.toInCall.keep, codeAny_func ?_⟩
  obtain ⟨t, ht, hq⟩ := hbody A outer s H vs Q E (hr.deeper _) hsp
  have I : Inv (cxOf CX P w K mg base N qual scope f cdv A outer s H E) [] (start N vs) H s1 := inv_start S hr.hd e0 hl r x
  refine wpAny_mono (ht [] s1 (start N vs) H _ I hq) (fun fl s' hs => ?_) fun e s' hs => hs
  have fin : ∀ {σ' : St} {H' : Hp} {v : V} {u : Value}, Inv (cxOf CX P w K mg base N qual scope f cdv A outer s H E) [] σ' H' s' → RelV v u → Q v H' → CE outer P w H s Q u s' :=
    fun {σ' H' v u} J rv q => ⟨v, H', J.os, J.bare, J.base, J.hok, rv, q⟩
  cases fl with
  | ret u =>
    obtain ⟨v, σ', H', J, rv, q⟩ := hs
    exact fin J rv q
  | next =>
    obtain ⟨σ', H', J, q⟩ := hs
    exact fin (v := V.non) (u := Value.none) J rfl q
  | brk =>
    obtain ⟨_, _, _, q⟩ := hs
    exact False.elim q
  | cont =>
    obtain ⟨_, _, _, q⟩ := hs
    exact False.elim q
end L2
namespace L2
open PySem PySem.Spec PyProof.Rows
section
variable {X : Cx} {x : Str} {p pos : Pos} {e : Expr} {es : List Expr} {t : TA} {id T : String} {r : List V → Hp → VK → Prop}
def tCB (r : List V → Hp → VK → Prop) (t : TA) : TE := fun σ H Q => t σ H fun vs H1 => r vs H1 Q
/-- f(e, ..), f a built-in function -/
theorem pe_callB (hc : CallR X (.builtin id) r) (hg : Gl X x) (hm : X.mg x = none) (hv : bootBuiltins x = some (.builtin id)) (ha : PA X (e :: es) t) (hn : x ≠ "__name__" := by decide) (hdb : (x == ("__debug__" : Str)) = false := by decide)
    (he : starEach (e :: es) X.env = (false, eval e X.env) :: starEach es X.env := by rfl) (hpl : (backTo pos (starEach es X.env)).any (·.1) = false := by rfl) : PE X (.Call (.Name x p) (e :: es) [] pos) (tCB r t) := by
  intro pins s σ H Q I h
  refine wpAny_Call_Name_kw (ld_blt I hg hm hv ?_ hn hdb)
  exact PyProof.Rows.callWith_builtin1 (thn (ha pos pins s σ H _ I h) fun us s1 ⟨vs, H1, I1, r1, q1⟩ => hc pins s1 σ H1 vs us Q I1 r1 q1) he hpl
/-- T(e, ..), T a built-in type -/
theorem pe_callTy (hc : CallR X (.type T) r) (hg : Gl X x) (hm : X.mg x = none) (hv : bootBuiltins x = some (.type T)) (ha : PA X (e :: es) t) (hn : x ≠ "__name__" := by decide) (hdb : (x == ("__debug__" : Str)) = false := by decide)
    (he : starEach (e :: es) X.env = (false, eval e X.env) :: starEach es X.env := by rfl) (hpl : (backTo pos (starEach es X.env)).any (·.1) = false := by rfl) : PE X (.Call (.Name x p) (e :: es) [] pos) (tCB r t) := by
  intro pins s σ H Q I h
  refine wpAny_Call_Name_kw (ld_blt I hg hm hv ?_ hn hdb)
  exact PyProof.Rows.callWith_type1 (thn (ha pos pins s σ H _ I h) fun us s1 ⟨vs, H1, I1, r1, q1⟩ => hc pins s1 σ H1 vs us Q I1 r1 q1) he hpl
end
end L2
namespace HT
open PySem PyProof.Rows
section
open PySem.SeqAt
open PySem.AutoSeq1 (wpAny_loadPart')
open PySem.MeetsSeq PySem.MeetsSeq2 PySem.MeetsSeq3
end
section
variable {prog : Program} {w : World} {A : Around} {E : Value → Shared → Prop} {s : Shared}
end
end HT
namespace L2
open PySem PySem.Spec PyProof.Rows
theorem intsAre_of {ns : List Int} : ∀ {us : List Value}, Vals (ns.map V.int) us → IntsAre us ns := by
  induction ns with
  | nil => intro us r; rw [List.map_nil] at r; cases r; exact .nil
  | cons n ns ih =>
    intro us r
    rw [List.map_cons] at r
    cases r with
    | cons r1 r2 =>
      obtain ⟨t, e⟩ := r1
      subst e
      exact .cons n t (ih r2)
section
variable {X : Cx} {e : Expr} {te : TE} {lo hi : Option Expr} {tl th : TO} {pos p2 : Pos}
end
end L2
namespace L2
open PySem PySem.Spec PyProof.Rows
/-- the place that an index of any sign means -/
def ixN (n : Nat) (i : Int) : Option Nat := if 0 ≤ i then (if i < n then some i.toNat else none) else if -(n : Int) ≤ i then some (i + n).toNat else none
def atI {α : Type} (xs : List α) (i : Int) : Option α := (ixN xs.length i).bind fun j => xs[j]?
theorem ixN_seq {n : Nat} {i : Int} {j : Nat} (h : ixN n i = some j) : seqIndex? i n = some j ∧ j < n ∧ -(n : Int) ≤ i ∧ i < n := by
  unfold ixN at h
  by_cases h0 : 0 ≤ i
  · rw [if_pos h0] at h
    by_cases h1 : i < n
    · rw [if_pos h1] at h
      have e : i.toNat = j := Option.some.inj h
      exact ⟨by rw [seqIndex_of h0 h1, e], by omega, by omega, h1⟩
    · rw [if_neg h1] at h; cases h
  · rw [if_neg h0] at h
    by_cases h1 : -(n : Int) ≤ i
    · rw [if_pos h1] at h
      have e : (i + n).toNat = j := Option.some.inj h
      exact ⟨by rw [seqIndex_neg (by omega) h1, e], by omega, h1, by omega⟩
    · rw [if_neg h1] at h; cases h
theorem atI_get {α : Type} {xs : List α} {i : Int} {v : α} (h : atI xs i = some v) : ∃ j, seqIndex? i xs.length = some j ∧ xs[j]? = some v ∧ j < xs.length ∧ -(xs.length : Int) ≤ i ∧ i < xs.length := by
  unfold atI at h
  cases e : ixN xs.length i with
  | none => rw [e] at h; cases h
  | some j =>
    rw [e] at h
    obtain ⟨h1, h2, h3, h4⟩ := ixN_seq e
    exact ⟨j, h1, h, h2, h3, h4⟩
theorem atI_nat {α : Type} {xs : List α} {j : Nat} {v : α} (h : xs[j]? = some v) : atI xs (j : Int) = some v := by
  have hj : j < xs.length := (List.getElem?_eq_some_iff.mp h).1
  have e : ixN xs.length (j : Int) = some j := by
    unfold ixN
    rw [if_pos (by omega), if_pos (by omega)]; simp
  unfold atI; rw [e]; exact h
theorem atI_last {α : Type} (xs : List α) (v : α) : atI (xs ++ [v]) (-1) = some v := by
  have hl : (xs ++ [v]).length = xs.length + 1 := by simp
  have e : ixN (xs ++ [v]).length (-1) = some xs.length := by
    unfold ixN
    rw [hl, if_neg (by decide), if_pos (by omega)]
    congr 1
    omega
  unfold atI
  rw [e]
  show (xs ++ [v])[xs.length]? = some v
  simp
/-- what stands as an index of a plain subscript -/
def PlainIx (b : Expr) : Prop := ∀ o i, subscripted b false o i = operate [o, i] (getItem o i)
/-- a subscript by values -/
def IxR (X : Cx) (r : R2) : Prop :=
  ∀ (value slice : Expr) (pins : List (Addr × Obj)) (s : Shared) (σ : St) (H : Hp) (x y : V) (v u : Value) (Q : VK), Inv X pins σ H s → RelV x v → RelV y u → r x y H Q →
    subscripted slice false v u = operate [v, u] (getItem v u) → wpAny (model X.prog X.w) X.A (subscriptTail value slice v u) (EP X pins σ Q) X.xe s
/-- a call of a builtin's method by values: the receiver, the arguments -/
def MtR (X : Cx) (id : String) (r : V → List V → Hp → VK → Prop) : Prop :=
  ∀ (pins : List (Addr × Obj)) (s : Shared) (σ : St) (H : Hp) (x : V) (xs : List V) (v : Value) (us : List Value) (Q : VK), Inv X pins σ H s → RelV x v → Vals xs us → r x xs H Q →
    wpAny (model X.prog X.w) X.A (call (.builtin id) (v :: us)) (EP X pins σ Q) X.xe s
section
variable {X : Cx} {a b : Expr} {ta tb : TE} {pos : Pos}
/-- a[b] -/
theorem pe_ix {r : R2} (hr : IxR X r) (ha : PE X a ta) (hb : PE X b tb) (hs : PlainIx b) : PE X (.Subscript a b pos) (tOp r ta tb) := by
  intro pins s σ H Q I h
  exact Subscript_ (binT ha hb I h fun v u s2 x y H2 I2 rx ry q => hr a b pins s2 σ H2 x y v u Q I2 rx ry q (hs _ _))
def rIxL (K : PySem.W.Frag) : R2 := fun x y H Q => ∃ p xs i v, x = .ref p ∧ y = .int i ∧ SqL K H p xs ∧ atI xs i = some v ∧ Q v H
def rIxT (K : PySem.W.Frag) : R2 := fun x y H Q => ∃ p xs i v, x = .ref p ∧ y = .int i ∧ SqT K H p xs ∧ atI xs i = some v ∧ Q v H
theorem ix_list : IxR X (rIxL X.K) := by
  intro value slice pins s σ H x y v u Q I rx ry h hs
  obtain ⟨p, xs, i, z, rfl, rfl, hq, he, q⟩ := h
  cases rx
  obtain ⟨t, rfl⟩ := ry
  obtain ⟨its, r, pl, hz⟩ := I.list hq
  obtain ⟨j, h1, h2, h3, h4, h5⟩ := atI_get he
  obtain ⟨w, ew, rw'⟩ := r.get h2
  have hl := r.length
  have hn := line63
  have fin : EP X pins σ Q w s := ⟨z, H, I, rw', q⟩
  by_cases h0 : 0 ≤ i
  · have hj : i.toNat = j := by
      rw [seqIndex_of h0 h5] at h1
      exact Option.some.inj h1
    exact item_listR pl.isList h0 (by omega) (by rw [hj]; simpa using ew) fin hs
  · have hj : (i + (its.toArray.size : Int)).toNat = j := by
      rw [seqIndex_neg (by omega) h4] at h1
      rw [List.size_toArray, ← hl]
      exact Option.some.inj h1
    exact subscriptTail_builtinR (x := w) pl.isList.typeIs slot_list_getitem.lookup
      (wpAny_getItem_list_neg (Q := fun r s' => r = w ∧ EP X pins σ Q r s') pl.isList (by omega) (by rw [List.size_toArray] <;> omega) (by omega) (by rw [hj]; simpa using ew) ⟨rfl, fin⟩) hs
theorem ix_tup : IxR X (rIxT X.K) := by
  intro value slice pins s σ H x y v u Q I rx ry h hs
  obtain ⟨p, xs, i, z, rfl, rfl, hq, he, q⟩ := h
  cases rx
  obtain ⟨t, rfl⟩ := ry
  obtain ⟨its, r, pl, hz⟩ := I.tuple hq
  obtain ⟨j, h1, h2, h3, h4, h5⟩ := atI_get he
  obtain ⟨w, ew, rw'⟩ := r.get h2
  have hl := r.length
  have hn := line63
  have fin : EP X pins σ Q w s := ⟨z, H, I, rw', q⟩
  exact subscriptTail_builtinR (x := w) pl.typeIs slot_tuple_getitem.lookup
    (getItem_tuple (j := j) (Q := fun r s' => r = w ∧ EP X pins σ Q r s') pl (by omega) (by omega) (by rw [List.size_toArray, ← hl]; exact h1) (by simpa using ew) ⟨rfl, fin⟩) hs
def flatV : V → Bool
  | .non => true
  | .bl _ => true
  | .int _ => true
  | .str _ => true
  | _ => false
/-- == of flat values -/
def eqV : V → V → Bool
  | .non, .non => true
  | .bl a, .bl b => a == b
  | .bl a, .int b => (if a then 1 else 0) == b
  | .int a, .bl b => a == (if b then 1 else 0)
  | .int a, .int b => a == b
  | .str a, .str b => a == b
  | _, _ => false
theorem eqAt_V {A : Around} {s : Shared} {y x : V} {u v : Value} (ry : RelV y u) (rx : RelV x v) (fy : flatV y = true) (fx : flatV x = true) : SeqAt.EqAt A s u v (eqV y x) := by
  cases y with
  | non =>
    cases ry
    cases x with
    | non => cases rx; exact SeqAt.EqAt.same _
    | bl b => cases rx; exact SeqAt.EqAt.none_bool b
    | int b => obtain ⟨t, rfl⟩ := rx; exact SeqAt.EqAt.none_int b t
    | str b => obtain ⟨t, rfl⟩ := rx; exact SeqAt.EqAt.none_str b t
    | _ => exact absurd (show false = true from fx) Bool.false_ne_true
  | bl a =>
    cases ry
    cases x with
    | non => cases rx; exact SeqAt.EqAt.bool_none a
    | bl b => cases rx; exact SeqAt.EqAt.bool_bool a b
    | int b => obtain ⟨t, rfl⟩ := rx; exact SeqAt.EqAt.bool_int a b t
    | str b => obtain ⟨t, rfl⟩ := rx; exact SeqAt.EqAt.bool_str a b t
    | _ => exact absurd (show false = true from fx) Bool.false_ne_true
  | int a =>
    obtain ⟨t', rfl⟩ := ry
    cases x with
    | non => cases rx; exact SeqAt.EqAt.int_none a t'
    | bl b => cases rx; exact SeqAt.EqAt.int_bool a t' b
    | int b => obtain ⟨t, rfl⟩ := rx; exact SeqAt.EqAt.int_int a t' b t
    | str b => obtain ⟨t, rfl⟩ := rx; exact SeqAt.EqAt.int_str a t' b t
    | _ => exact absurd (show false = true from fx) Bool.false_ne_true
  | str a =>
    obtain ⟨t', rfl⟩ := ry
    cases x with
    | non => cases rx; exact SeqAt.EqAt.str_none a t'
    | bl b => cases rx; exact SeqAt.EqAt.str_bool a t' b
    | int b => obtain ⟨t, rfl⟩ := rx; exact SeqAt.EqAt.str_int a t' b t
    | str b => obtain ⟨t, rfl⟩ := rx; exact SeqAt.EqAt.str_str a t' b t
    | _ => exact absurd (show false = true from fx) Bool.false_ne_true
  | _ => exact absurd (show false = true from fy) Bool.false_ne_true
/-- the items' answers, read off the values (a value's own answer does not lean on its token) -/
def eqU (x : V) (u : Value) : Bool := match u with
  | .none => eqV .non x
  | .bool b => eqV (.bl b) x
  | .int i _ => eqV (.int i) x
  | .str z _ => eqV (.str z) x
  | _ => false
theorem eqU_of {x y : V} {u : Value} (r : RelV y u) (f : flatV y = true) : eqU x u = eqV y x := by
  cases y with
  | non => cases r; rfl
  | bl b => cases r; rfl
  | int i => obtain ⟨t, rfl⟩ := r; rfl
  | str z => obtain ⟨t, rfl⟩ := r; rfl
  | _ => exact absurd (show false = true from f) Bool.false_ne_true
theorem any_eqU {x : V} : ∀ {xs : List V} {us : List Value}, Vals xs us → xs.all flatV = true → us.any (eqU x) = xs.any fun y => eqV y x
  | _, _, .nil, _ => rfl
  | y :: xs, u :: us, .cons r t, f => by
    rw [List.all_cons, Bool.and_eq_true] at f
    rw [List.any_cons, List.any_cons, eqU_of r f.1, any_eqU t f.2]
theorem mem_eqAt {A : Around} {s : Shared} {x : V} {v : Value} (rx : RelV x v) (fx : flatV x = true) : ∀ {xs : List V} {us : List Value}, Vals xs us → xs.all flatV = true → ∀ u ∈ us, SeqAt.EqAt A s u v (eqU x u)
  | _, _, .nil, _ => fun u hu => by cases hu
  | y :: xs, u :: us, .cons r t, f => fun u' hu => by
    rw [List.all_cons, Bool.and_eq_true] at f
    rcases List.mem_cons.mp hu with rfl | hu
    · rw [eqU_of r f.1]; exact eqAt_V r rx f.1 fx
    · exact mem_eqAt rx fx t f.2 u' hu
def inV (x : V) (xs : List V) : Bool := xs.any fun y => eqV y x
/-- x in a list or tuple of flat items -/
def rIn (K : PySem.W.Frag) (neg : Bool) : R2 := fun x y H Q => ∃ p xs, y = .ref p ∧ (SqL K H p xs ∨ SqT K H p xs) ∧ flatV x = true ∧ xs.all flatV = true ∧ Q (.bl (if neg then !inV x xs else inV x xs)) H
theorem op_in_seq : OpR X (compareOp .In) (rIn X.K false) := by
  intro pins s σ H x y v u Q I rx ry h
  obtain ⟨p, xs, rfl, hq, fx, fs, q⟩ := h
  cases ry
  rcases hq with hq | hq
  · obtain ⟨its, r, pl, hz⟩ := I.list hq
    refine SeqAt.in_listAt (eqU x) pl.isList (fun w hw => mem_eqAt rx fx r fs w (by simpa using hw)) ⟨.bl _, H, I, rfl, ?_⟩
    rw [show its.toArray.any (eqU x) = its.any (eqU x) by simp, any_eqU r fs]
    exact q
  · obtain ⟨its, r, pl, hz⟩ := I.tuple hq
    refine SeqAt.in_tupleAt (eqU x) pl (fun w hw => mem_eqAt rx fx r fs w (by simpa using hw)) ⟨.bl _, H, I, rfl, ?_⟩
    rw [show its.toArray.any (eqU x) = its.any (eqU x) by simp, any_eqU r fs]
    exact q
theorem op_notIn_seq : OpR X (compareOp .NotIn) (rIn X.K true) := by
  intro pins s σ H x y v u Q I rx ry h
  obtain ⟨p, xs, rfl, hq, fx, fs, q⟩ := h
  cases ry
  rcases hq with hq | hq
  · obtain ⟨its, r, pl, hz⟩ := I.list hq
    refine SeqAt.notIn_listAt (eqU x) pl.isList (fun w hw => mem_eqAt rx fx r fs w (by simpa using hw)) ⟨.bl _, H, I, rfl, ?_⟩
    rw [show its.toArray.any (eqU x) = its.any (eqU x) by simp, any_eqU r fs]
    exact q
  · obtain ⟨its, r, pl, hz⟩ := I.tuple hq
    refine SeqAt.notIn_tupleAt (eqU x) pl (fun w hw => mem_eqAt rx fx r fs w (by simpa using hw)) ⟨.bl _, H, I, rfl, ?_⟩
    rw [show its.toArray.any (eqU x) = its.any (eqU x) by simp, any_eqU r fs]
    exact q
theorem call_len_seq : CallR X (.builtin "len") (fun xs H Q => ∃ p ys, xs = [.ref p] ∧ (SqL X.K H p ys ∨ SqT X.K H p ys) ∧ Q (.int ys.length) H) := by
  intro pins s σ H xs us Q I r h
  obtain ⟨p, ys, rfl, hq, q⟩ := h
  obtain ⟨u, rfl, rx⟩ := vals1 r
  cases rx
  have hn := line63
  rcases hq with hq | hq
  · obtain ⟨its, r', pl, hz⟩ := I.list hq
    have hlen := r'.length
    exact Calls.call_len_list pl.isList (by simp only [List.size_toArray] <;> omega) ⟨.int ys.length, H, I.tok _, ⟨s.toks + 1, by rw [List.size_toArray, hlen]⟩, q⟩
  · obtain ⟨its, r', pl, hz⟩ := I.tuple hq
    have hlen := r'.length
    exact len_tuple pl (by simp only [List.size_toArray] <;> omega) ⟨.int ys.length, H, I.tok _, ⟨s.toks + 1, by rw [List.size_toArray, hlen]⟩, q⟩
theorem call_list_of : CallR X (.type "list") (fun xs H Q => ∃ p ys, xs = [.ref p] ∧ (SqL X.K H p ys ∨ SqT X.K H p ys) ∧ ∀ l, H l = none → Q (.ref l) (upd H l (.lst ys))) := by
  intro pins s σ H xs us Q I r h
  obtain ⟨p, ys, rfl, hq, q⟩ := h
  obtain ⟨u, rfl, rx⟩ := vals1 r
  cases rx
  have fin : ∀ (its : List Value), Vals ys its → ys.length ≤ sizeLine → ∀ (h' : Heap) (c' : Nat), (∀ b o', s.heap.get? b = some o' → h'.get? b = some o') →
      h'.get? s.heap.objs.size = some { cls := .type "list", dict := none, data := .seq its.toArray c', slots := #[] } → EP X pins σ Q (.ref s.heap.objs.size) { s with heap := h' } := fun its r' hz h' c' kp e =>
    ⟨.ref s.heap.objs.size, _, I.laid (t' := s.toks) kp (Nat.le_refl _) (show ObjOk X.prog X.w _ h' _ (.lst ys) from ⟨hz, its, c', r', e⟩), rfl, q _ (I.hok.fresh (Nat.le_refl _))⟩
  rcases hq with hq | hq
  · obtain ⟨its, r', pl, hz⟩ := I.list hq
    have hlen := r'.length
    obtain ⟨o, ho, hc, n, hd⟩ := pl.isList
    exact call_list_seq p (.inl rfl) ho hc hd (fun h' c' kp e => fin its r' hz h' c' kp e) (by simp only [List.size_toArray] <;> omega)
  · obtain ⟨its, r', pl, hz⟩ := I.tuple hq
    have hlen := r'.length
    obtain ⟨o, ho, hc, n, hd⟩ := pl
    exact call_list_seq p (.inr rfl) ho hc hd (fun h' c' kp e => fin its r' hz h' c' kp e) (by simp only [List.size_toArray] <;> omega)
theorem call_tuple_of : CallR X (.type "tuple") (fun xs H Q => ∃ p ys, xs = [.ref p] ∧ ((SqL X.K H p ys ∧ ∀ l, H l = none → Q (.ref l) (upd H l (.tup ys))) ∨ (SqT X.K H p ys ∧ Q (.ref p) H))) := by
  intro pins s σ H xs us Q I r h
  obtain ⟨p, ys, rfl, h⟩ := h
  obtain ⟨u, rfl, rx⟩ := vals1 r
  cases rx
  rcases h with ⟨hq, q⟩ | ⟨hq, q⟩
  · obtain ⟨its, r', pl, hz⟩ := I.list hq
    have hlen := r'.length
    refine call_tuple_list pl.isList (fun h' kp => ?_) (by simp only [List.size_toArray] <;> omega)
    have I1 : Inv X pins σ H { s with heap := h' } := I.kept (t' := s.toks) kp
    have I2 : Inv X pins σ (upd H h'.objs.size (.tup ys)) { s with heap := h'.push { cls := .type "tuple", data := .seq its.toArray } } :=
      I1.laid (t' := s.toks) (fun b o e => Heap.get?_push_of_some _ e) (Nat.le_refl _) (show ObjOk X.prog X.w _ _ _ (.tup ys) from ⟨hz, its, r', IsTup.new _ _⟩)
    exact ⟨.ref h'.objs.size, _, I2, rfl, q _ (I1.hok.fresh (Nat.le_refl _))⟩
  · obtain ⟨its, r', pl, hz⟩ := I.tuple hq
    exact call_tuple_same pl ⟨.ref p, H, I, rfl, q⟩
/-- the value is of that builtin type -/
def tyV (K : PySem.W.Frag) (T : String) (x : V) (H : Hp) : Prop := match x with
  | .str _ => T = "str"
  | .int _ => T = "int"
  | .ref p => (T = "list" ∧ ∃ xs, SqL K H p xs) ∨ (T = "tuple" ∧ ∃ o, K.lookup p = some o ∧ o.cls = .type "tuple" ∧ o.dict = none) ∨
      (T = "dict" ∧ ((∃ kvs, H p = some (.dK kvs)) ∨ ∃ kvs, H p = some (.dT kvs))) ∨ (T = "set" ∧ ∃ S n, H p = some (.set S n))
  | _ => False
theorem tyV_is {pins : List (Addr × Obj)} {σ : St} {H : Hp} {s : Shared} {T : String} {x : V} {v : Value} (I : Inv X pins σ H s) (r : RelV x v) (ty : tyV X.K T x H) :
    s.TypeIs v T ∧ ∀ a, v = .ref a → ∃ ob, s.heap.get? a = some ob ∧ ob.dict = none := by
  cases x with
  | str z =>
    obtain ⟨t, rfl⟩ := r
    cases (show T = "str" from ty)
    exact ⟨typeIs_str s z t, fun _ e => nomatch e⟩
  | int i =>
    obtain ⟨t, rfl⟩ := r
    cases (show T = "int" from ty)
    exact ⟨typeIs_int s i t, fun _ e => nomatch e⟩
  | ref p =>
    cases r
    rcases ty with ⟨rfl, xs, hq⟩ | ⟨rfl, o, hk, hc, hd⟩ | ⟨rfl, hk⟩ | ⟨rfl, S, n, hk⟩
    · obtain ⟨its, _, pl, _⟩ := I.list hq
      refine ⟨pl.isList.typeIs, fun a e => ?_⟩
      cases e
      obtain ⟨o, n, e, c, hd, _⟩ := pl
      exact ⟨o, e, hd⟩
    · refine ⟨⟨o, I.kIn p o hk, hc⟩, fun a e => ?_⟩
      cases e
      exact ⟨o, I.kIn _ o hk, hd⟩
    · have z : ∃ o, s.heap.get? p = some o ∧ o.ExactDict := by
        rcases hk with ⟨kvs, hk⟩ | ⟨kvs, hk⟩
        · obtain ⟨_, _, _, _, o, _, _, e, ex, _⟩ := I.hok p _ hk
          exact ⟨o, e, ex⟩
        · obtain ⟨_, _, _, _, o, _, _, e, ex, _⟩ := I.hok p _ hk
          exact ⟨o, e, ex⟩
      obtain ⟨o, e, ex⟩ := z
      refine ⟨⟨o, e, ex.1⟩, fun a e2 => ?_⟩
      cases e2
      exact ⟨o, e, ex.2.1⟩
    · obtain ⟨o, _, _, _, e, ex, _⟩ := I.hok p _ hk
      refine ⟨⟨o, e, ex.1⟩, fun a e2 => ?_⟩
      cases e2
      exact ⟨o, e, ex.2.1⟩
  | _ => exact False.elim ty
def tBM0 (K : PySem.W.Frag) (T : String) (r : V → List V → Hp → VK → Prop) (to : TE) : TE := fun σ H Q => to σ H fun x H1 => tyV K T x H1 ∧ r x [] H1 Q
def tBM (K : PySem.W.Frag) (T : String) (r : V → List V → Hp → VK → Prop) (to : TE) (t : TA) : TE := fun σ H Q => to σ H fun x H1 => tyV K T x H1 ∧ t σ H1 fun xs H2 => r x xs H2 Q
variable {o e : Expr} {es : List Expr} {to : TE} {t : TA} {name : Str} {apos cpos : Pos} {T id : String} {r : V → List V → Hp → VK → Prop}
theorem pe_bm0 (pa : PlainAttrs T) (slot : Slot T name id) (hty : typeOf (.builtin id) = pure (.type "method_descriptor")) (hm : MtR X id r) (ho : PE X o to)
    (hbase : attributeBase o name X.env (eval o X.env) = eval o X.env := by rfl) (hline : (apos.endLine == cpos.line) = true := by rfl) : PE X (.Call (.Attribute o name apos) [] [] cpos) (tBM0 X.K T r to) := by
  intro pins s σ H Q I h
  refine wpAny_Call_method0_late hbase hline (thn (ho pins s σ H _ I h) fun v s1 ⟨x, H1, I1, r1, ty, q1⟩ => ?_)
  obtain ⟨h1, h2⟩ := tyV_is I1 r1 ty
  exact ⟨T, id, pa, slot, hty, h1, h2, Calls.callWith_builtin rfl (PySem.evalArgs_none (hm pins s1 σ H1 x [] v [] Q I1 r1 .nil q1))⟩
theorem pe_bm (pa : PlainAttrs T) (slot : Slot T name id) (hty : typeOf (.builtin id) = pure (.type "method_descriptor")) (hm : MtR X id r) (ho : PE X o to) (ha : PA X (e :: es) t)
    (hbase : attributeBase o name X.env (eval o X.env) = eval o X.env := by rfl)
    (hfew : ((backTo cpos (starEach (e :: es) X.env)).all (fun x => !x.1) && (backToKw cpos (keywordEach [] X.env)).all (fun x => x.1.isSome)
      && decide ((e :: es).length + ([] : List Keyword).length + (if ([] : List Keyword).isEmpty then 0 else 1) < 30)) = true := by rfl)
    (hline : (apos.endLine == cpos.line) = true := by rfl) (hs : starEach (e :: es) X.env = (false, eval e X.env) :: starEach es X.env := by rfl) (hplain : (backTo cpos (starEach es X.env)).any (·.1) = false := by rfl) :
    PE X (.Call (.Attribute o name apos) (e :: es) [] cpos) (tBM X.K T r to t) := by
  intro pins s σ H Q I h
  refine wpAny_Call_method_late hbase hfew hline rfl (thn (ho pins s σ H _ I h) fun v s1 ⟨x, H1, I1, r1, ty, q1⟩ => ?_)
  obtain ⟨h1, h2⟩ := tyV_is I1 r1 ty
  refine ⟨T, id, pa, slot, hty, h1, h2, ?_⟩
  have hA := ha cpos pins s1 σ H1 _ I1 q1
  rw [hs] at hA ⊢
  refine Calls.callWith_builtin (by show (false || (backTo cpos (starEach es X.env)).any (·.1)) = false; rw [hplain] <;> rfl) (Calls.evalArgs_plain ?_)
  exact thn hA fun us s2 ⟨vs, H2, I2, r2, q2⟩ => hm pins s2 σ H2 x vs v us Q I2 r1 r2 q2
/- xs.append(e), list.index on a module's tuple .. are MtR facts of 06m -/
end
end L2
namespace L2
open PySem PySem.Spec PyProof.Rows
def MtM (X : Cx) (id : String) (r : V → List V → Hp → VK → Prop) : Prop :=
  ∀ (pins : List (Addr × Obj)) (s : Shared) (σ : St) (H : Hp) (x : V) (xs : List V) (v : Value) (us : List Value) (Q : VK), Inv X pins σ H s → RelV x v → Vals xs us → r x xs H Q →
    wpAny (model X.prog X.w) X.A (call (.builtin id) (v :: us)) (EP X pins σ Q) X.xe s
theorem Vals.one : ∀ {x : V} {us : List Value}, Vals [x] us → ∃ u, us = [u] ∧ RelV x u
  | _, _, .cons r .nil => ⟨_, rfl, r⟩
theorem Vals.zero : ∀ {us : List Value}, Vals [] us → us = []
  | _, .nil => rfl
theorem Vals.dropLast {xs : List V} {us : List Value} (h : Vals xs us) : Vals xs.dropLast us.dropLast := by
  induction h with
  | nil => exact .nil
  | cons r t ih =>
    cases t with
    | nil => exact .nil
    | cons q t' => exact .cons r ih
theorem Vals.rep {xs : List V} {us : List Value} (h : Vals xs us) : ∀ k : Nat, Vals (List.replicate k xs).flatten (List.replicate k us).flatten
  | 0 => .nil
  | k + 1 => by
    rw [List.replicate_succ, List.replicate_succ, List.flatten_cons, List.flatten_cons]
    exact Vals.append h (Vals.rep h k)
theorem erase_last {α : Type} (l : List α) : l.eraseIdx (l.length - 1) = l.dropLast := by
  induction l with
  | nil => rfl
  | cons a r ih =>
    cases r with
    | nil => rfl
    | cons b r =>
      have e : (a :: b :: r).length - 1 = ((b :: r).length - 1) + 1 := by
        have h1 : (a :: b :: r).length = r.length + 2 := rfl
        have h2 : (b :: r).length = r.length + 1 := rfl
        omega
      rw [e, List.eraseIdx_cons_succ, ih]
      all_goals rfl
theorem foldl_rep (its : List Value) : ∀ (k : Nat) (acc : List Value),
    List.foldl (fun x1 x2 => x1 ++ x2) acc.toArray (List.replicate k its.toArray) = (acc ++ (List.replicate k its).flatten).toArray
  | 0, acc => by simp
  | k + 1, acc => by
    have e : acc.toArray ++ its.toArray = (acc ++ its).toArray := by simp
    have e2 : (acc ++ its) ++ (List.replicate k its).flatten = acc ++ (List.replicate (k + 1) its).flatten := by
      rw [List.replicate_succ, List.flatten_cons, List.append_assoc]
    rw [← e2, ← foldl_rep its k (acc ++ its), ← e, List.replicate_succ, List.foldl_cons]
section
variable {X : Cx} {pins : List (Addr × Obj)} {σ : St} {H : Hp} {s : Shared} {l b : Addr} {xs ys zs : List V}
theorem Inv.lset {its its' : List Value} {n : Nat} {f : Array Value → Array Value} {t' : Nat} (I : Inv X pins σ H s) (hH : H l = some (.lst xs))
    (e : s.heap.get? l = some { cls := .type "list", data := .seq its.toArray n }) (hf : f its.toArray = its'.toArray) (hv : Vals ys its') (hz : ys.length ≤ sizeLine) :
    Inv X pins σ (upd H l (.lst ys)) { s with heap := s.heap.update l (Obj.mapSeq f), toks := t' } := by
  have q := PySem.IsL.update e f
  rw [hf] at q
  refine I.write (x := l) (e := l) (by rw [hH]; exact trivial) (.inl rfl) (fun b' u hb hu => (Heap.get?_update_other s.heap (Obj.mapSeq f) (Ne.symm hb)).trans hu) ⟨_, q⟩ ?_
  exact ⟨hz, its', _, hv, q⟩
theorem Inv.lnew {its : List Value} {t' : Nat} (I : Inv X pins σ H s) (hv : Vals ys its) (hz : ys.length ≤ sizeLine) :
    Inv X pins σ (upd H s.heap.objs.size (.lst ys)) { s with heap := s.heap.push { cls := .type "list", data := .seq its.toArray }, toks := t' } :=
  I.laid (fun _ _ q => Heap.get?_push_of_some _ q) (Nat.le_refl _) ⟨hz, its, 0, hv, Heap.get?_push_size _ rfl⟩
theorem Inv.fresh (I : Inv X pins σ H s) : H s.heap.objs.size = none := I.hok.fresh (Nat.le_refl _)
theorem Inv.lstM (I : Inv X pins σ H s) (hH : H l = some (.lst xs)) : xs.length ≤ sizeLine ∧ ∃ (its : List Value) (n : Nat), Vals xs its ∧ xs.length = its.length ∧ s.heap.get? l = some { cls := .type "list", data := .seq its.toArray n } := by
  obtain ⟨z, its, n, r, e⟩ := I.hok l _ hH
  exact ⟨z, its, n, r, r.length, e⟩
theorem notLongL {n : Nat} (h : n ≤ sizeLine) : Builtin.List.listTooLong n = false := by
  unfold Builtin.List.listTooLong
  exact decide_eq_false (by omega)
end
section
variable {X : Cx}
def rAppend : V → List V → Hp → VK → Prop := fun x vs H Q => ∃ l xs y, x = .ref l ∧ vs = [y] ∧ H l = some (.lst xs) ∧ xs.length < sizeLine ∧ Q .non (upd H l (.lst (xs ++ [y])))
theorem mt_append : MtM X "list.append" rAppend := by
  intro pins s σ H x vs v us Q I rx rv h
  obtain ⟨l, xs, y, rfl, rfl, hH, hz, q⟩ := h
  cases rx
  obtain ⟨u, rfl, ru⟩ := rv.one
  obtain ⟨z, its, n, r, hl, e⟩ := I.lstM hH
  refine call_meets F.slot_list_append ⟨_, e, rfl⟩ F.entry_list_append (F.args_list_append_2 _ _) (PySem.list_append l its.toArray n u (by rw [List.size_toArray]; omega)) ⟨e, ?_⟩
  refine ⟨.non, _, I.lset (its' := its ++ [u]) hH e (by simp) (r.append (.cons ru .nil)) ?_, rfl, q⟩
  rw [List.length_append, List.length_singleton]
  omega
def rExtend : V → List V → Hp → VK → Prop := fun x vs H Q => ∃ l b xs zs, x = .ref l ∧ vs = [.ref b] ∧ H l = some (.lst xs) ∧ H b = some (.lst zs) ∧ xs.length + zs.length ≤ sizeLine ∧ Q .non (upd H l (.lst (xs ++ zs)))
theorem mt_extend : MtM X "list.extend" rExtend := by
  intro pins s σ H x vs v us Q I rx rv h
  obtain ⟨l, b, xs, zs, rfl, rfl, hH, hB, hz, q⟩ := h
  cases rx
  obtain ⟨u, rfl, ru⟩ := rv.one
  cases ru
  obtain ⟨z, its, n, r, hl, e⟩ := I.lstM hH
  obtain ⟨z2, its2, n2, r2, hl2, e2⟩ := I.lstM hB
  have hsz : its.toArray.size + its2.toArray.size ≤ sizeLine := by rw [List.size_toArray, List.size_toArray]; omega
  have hlong : ¬ (!its.toArray.isEmpty && Builtin.List.listTooLong (its.toArray.size + its2.toArray.size)) = true := by
    rw [notLongL hsz, Bool.and_false]
    exact Bool.false_ne_true
  refine call_meets F.slot_list_extend ⟨_, e, rfl⟩ F.entry_list_extend (F.args_list_extend_2 _ _)
    (AutoSeq1.list_extend_list_list_0 l its.toArray n b its2.toArray n2 hlong (by rw [List.size_toArray]; omega) (by omega)) ⟨e, e2, ?_⟩
  refine ⟨.non, _, I.lset (its' := its ++ its2) hH e (by simp) (r.append r2) ?_, rfl, q⟩
  rw [List.length_append]
  omega
def rPop : V → List V → Hp → VK → Prop := fun x vs H Q => ∃ l xs y, x = .ref l ∧ vs = [] ∧ H l = some (.lst xs) ∧ xs[xs.length - 1]? = some y ∧ Q y (upd H l (.lst xs.dropLast))
theorem mt_pop : MtM X "list.pop" rPop := by
  intro pins s σ H x vs v us Q I rx rv h
  obtain ⟨l, xs, y, rfl, rfl, hH, hy, q⟩ := h
  cases rx
  have hus := rv.zero
  subst hus
  obtain ⟨z, its, n, r, hl, e⟩ := I.lstM hH
  obtain ⟨u, hu, ru⟩ := r.get hy
  have hy' : its.toArray[its.toArray.size - 1]? = some u := by
    show its.toArray[its.length - 1]? = some u
    rw [← Array.getElem?_toList, ← hl]
    exact hu
  refine call_meets F.slot_list_pop ⟨_, e, rfl⟩ F.entry_list_pop (F.args_list_pop_1 _) (MeetsSeq.list_pop_last l its.toArray n u hy' (by rw [List.size_toArray]; omega)) ⟨e, ?_⟩
  refine ⟨y, _, I.lset (its' := its.dropLast) hH e ?_ r.dropLast ?_, ru, q⟩
  · show its.toArray.eraseIdxIfInBounds (its.toArray.size - 1) = its.dropLast.toArray
    rw [List.size_toArray, List.eraseIdxIfInBounds_toArray, erase_last]
  · rw [List.length_dropLast]
    omega
def rCat : R2 := fun x y H Q => ∃ l b xs zs, x = .ref l ∧ y = .ref b ∧ H l = some (.lst xs) ∧ H b = some (.lst zs) ∧ xs.length + zs.length ≤ sizeLine ∧ ∀ p, H p = none → Q (.ref p) (upd H p (.lst (xs ++ zs)))
theorem op_cat : OpR X (binaryOp .Add) rCat := by
  intro pins s σ H x y v u Q I rx ry h
  obtain ⟨l, b, xs, zs, rfl, rfl, hH, hB, hz, q⟩ := h
  cases rx
  cases ry
  obtain ⟨z, its, n, r, hl, e⟩ := I.lstM hH
  obtain ⟨z2, its2, n2, r2, hl2, e2⟩ := I.lstM hB
  refine PySem.P.add_list e e2 ?_ (by rw [List.size_toArray, List.size_toArray]; omega)
  have ea : its.toArray ++ its2.toArray = (its ++ its2).toArray := by simp
  rw [ea]
  exact ⟨.ref _, _, I.lnew (t' := s.toks) (r.append r2) (by rw [List.length_append]; omega), rfl, q _ I.fresh⟩
/-- a list times an int (a negative one is nothing) -/
def rRep : R2 := fun x y H Q => ∃ l k xs, x = .ref l ∧ y = .int k ∧ H l = some (.lst xs) ∧ -(2 ^ 63) ≤ k ∧ k < 2 ^ 63 ∧ xs.length * k.toNat ≤ sizeLine ∧
  ∀ p, H p = none → Q (.ref p) (upd H p (.lst (List.replicate k.toNat xs).flatten))
theorem len_rep {α : Type} (xs : List α) (k : Nat) : (List.replicate k xs).flatten.length = k * xs.length := by
  induction k with
  | zero => simp
  | succ k ih => rw [List.replicate_succ, List.flatten_cons, List.length_append, ih, Nat.succ_mul, Nat.add_comm]
theorem op_rep : OpR X (binaryOp .Mult) rRep := by
  intro pins s σ H x y v u Q I rx ry h
  obtain ⟨l, k, xs, rfl, rfl, hH, h1, h2, hz, q⟩ := h
  cases rx
  obtain ⟨t, rfl⟩ := ry
  obtain ⟨z, its, n, r, hl, e⟩ := I.lstM hH
  have hlen : its.toArray.size * k.toNat ≤ sizeLine := by rw [List.size_toArray, ← hl]; exact hz
  have hcap : ¬ its.toArray.size * k.toNat > (2 ^ 63 - 1) / 8 := by
    have : (sizeLine : Nat) ≤ (2 ^ 63 - 1) / 8 := by decide
    omega
  have hfit : ¬ (!Builtin.List.listFitsIndex k) = true := by
    rw [fitsIndex_both h1 h2]
    exact Bool.false_ne_true
  have hlong : ¬ Builtin.List.listTooLong (its.toArray.size * k.toNat) = true := by
    rw [notLongL hlen]
    exact Bool.false_ne_true
  have hnew : List.foldl (fun x1 x2 => x1 ++ x2) #[] (List.replicate (if its.toArray.isEmpty = true then 0 else k.toNat) its.toArray) = (List.replicate k.toNat its).flatten.toArray := by
    have f0 : ∀ m : Nat, List.foldl (fun x1 x2 => x1 ++ x2) #[] (List.replicate m its.toArray) = (List.replicate m its).flatten.toArray := fun m => by
      have := foldl_rep its m []
      rw [List.nil_append] at this
      exact this
    rw [f0]
    cases its with
    | nil => simp
    | cons a r' => rw [if_neg (by simp)]
  refine wpAny_binaryOp_repeat_ref (T := "list") (U := "int") (by decide) ⟨_, e, rfl⟩ (fun s' => typeIs_int s' k t) noFill_list_mul F.fills_int_mul F.slot_int_rmul repeat_list F.slot_int_index.lookup
    (call_meets F.slot_int_rmul (typeIs_int s k t) F.entry_int_rmul (F.args_int_rmul_2 _ _) (int___rmul___int_list k t l its.toArray n)
      ⟨e, rfl, ⟨_, e, rfl⟩, call_meets F.slot_list_mul ⟨_, e, rfl⟩ F.entry_list_mul (F.args_list_mul_2 _ _) (AutoListH.list___mul___list_int_3 l its.toArray n k t hfit hcap hlong) ⟨e, ?_⟩⟩)
  rw [hnew]
  exact ⟨.ref _, _, I.lnew (t' := s.toks) (r.rep k.toNat) (by rw [len_rep, Nat.mul_comm]; exact hz), rfl, q _ I.fresh⟩
end
section
variable {prog : Program} {w : World} {A : Around} {E : Value → Shared → Prop} {s : Shared}
set_option maxRecDepth 100000 in
end
section
variable {X : Cx}
end
end L2
namespace Att
open PySem PySem.W PySem.Calls PyProof.Rows
theorem ints_of_wellAll {P : Params} {h : Heap} : ∀ (ns : List Int) (vs : List Value), WellAll P h vs (ns.map WData.int) → IntsAre vs ns := by
  intro ns
  induction ns with
  | nil =>
    intro vs w
    rw [List.map_nil] at w
    cases w
    exact .nil
  | cons n ns ih =>
    intro vs w
    rw [List.map_cons] at w
    cases w with
    | cons a b =>
      cases a
      exact .cons _ _ (ih _ b)
theorem script_of {l : OpenLaw} {n : Nat} (hn : l.most = some n) {P : Params} {h : Heap} {args : List WData} {vals : List Value}
    (hpre : l.row.toRowW.claim.pre args = true) (hwl : WellAll P h vals args) :
    ∃ a vs ns, vals = [Value.ref a] ∧ args = [WData.list (ns.map WData.int)] ∧ h.get? a = some { cls := .type "list", data := .seq vs.toArray } ∧ IntsAre vs ns ∧ ns.length ≤ n := by
  have hsh : WShape.hasAll [] args [.list .int] = true := (pre_splitW hpre).1
  have hc : l.pre.holds [] { args := args } = true := (pre_splitW hpre).2
  obtain ⟨d, r, rfl, h1, h2⟩ := hasAllW_cons hsh
  obtain rfl := hasAllW_nil h2
  obtain ⟨xs, rfl, h3⟩ := hasW_list h1
  obtain ⟨ns, rfl⟩ := items_int h3
  have hlen : ns.length ≤ n := by
    unfold OpenLaw.pre at hc
    have h4 : (WTm.not (.lt (.lit (.int (n : Int))) (.len (.arg 0)))).holds [] { args := [.list (ns.map .int)] } = true := by
      have h4 := (holds_andW hc).1
      rw [hn] at h4
      exact h4
    have h5 := condW_of h4 (w_not (w_lt w_lit (w_len_list (w_arg rfl))))
    rw [List.length_map] at h5
    refine Nat.le_of_not_lt fun q => ?_
    have q' : (n : Int) < ((ns.length : Nat) : Int) := by omega
    first
      | (rw [decide_eq_true q'] at h5; exact absurd h5 (by decide))
      | (simp at h5; omega)
  cases hwl with
  | cons w1 w2 =>
    cases w2
    cases w1 with
    | list ho hall => exact ⟨_, _, ns, rfl, rfl, ho, ints_of_wellAll ns _ hall, hlen⟩
theorem post_true (l : OpenLaw) (args : List WData) : l.row.toRowW.claim.post args (.bool true) args = true :=
  postW_of (r := l.row.toRowW) (X := (true == true))
    (show WShape.has [] (.bool true) .bool = true by first | rfl | decide | simp [WShape.has, WShape.arms, WShape.armsAll])
    (show (WTm.eq .res (.lit (.bool true))).value [] { args := args, res := some (.bool true), after := args } = some (.bool (true == true)) from w_eq_bool (w_res rfl) w_lit) rfl
/-- the same from a codeAny of the CALL (for a layer whose function contracts speak of calls) -/
theorem attach_call {l : OpenLaw} {n : Nat} {q : Program} {loose : List Str} {XP : (Str → Option Value) → Heap → Prop} {YP : World → Heap → Prop} {d : DefRec}
    (hn : l.most = some n) (hdf : d.params.defaults = [])
    (call : ∀ (w : World) (s₀ s₁ : Shared) (mg mb : Str → Option Value) (fa : Addr) (o : Obj) (pm cd doc : Value) (a : Addr) (vs : List Value) (ns : List Int),
      Ground q loose [] XP w s₀ mg mb s₁.heap → YP w s₁.heap →
      s₁.heap.get? fa = some o → o.data = .func (docDef d.name d.params d.body d.scope pm cd doc) → s₁.heap.CodeRec cd d.name → mg d.name = some (.ref fa) →
      s₁.heap.get? a = some { cls := .type "list", data := .seq vs.toArray } → IntsAre vs ns → ns.length ≤ n → s₁.gens = #[] →
      codeAny (model l.prog w) callerA (.call (.ref fa) ⟨[.ref a], []⟩) (fun r s' => r = .ok (.ret (.bool true)) ∧ OldK s₁.heap s'.heap ∧ s'.os = s₁.os ∧ AllBare s'.gens) s₁) :
    WalkO q loose XP YP l.row.toRowW d [] (fun f vs => PySem.call f vs) := by
  intro w s₀ s₁ mg mb G Y fa o pm cd doc dV kV ho hd hcd hD hmg hg args vals as hpre hlay hrd hwl hlo
  obtain rfl : dV = .none := Dflts.none hD hdf
  obtain rfl : kV = .none := Dflts.noKw hD
  obtain ⟨a, vs, ns, rfl, rfl, hobj, hints, hlen⟩ := script_of hn hpre hwl
  refine enter_call (codeAny_mono (call w s₀ s₁ mg mb fa o pm cd doc a vs ns G Y ho (fd_plain hd) hcd hmg hobj hints hlen hg) fun r s' hq => ?_)
  obtain ⟨rfl, h2, h3, h4⟩ := hq
  exact ⟨.inl ⟨.bool true, .bool true, [], rfl, fun _ => rfl, .bool true, post_true l _, fun _ => ⟨List.Pairwise.nil, fun _ hm => (nomatch hm)⟩⟩, h2, h3, h4⟩
section
variable {prog : Program} {w : World} {A : Around} {E : Value → Shared → Prop} {s : Shared} {K : Frag}
end
end Att
namespace L2
open PySem PySem.Spec PyProof.Rows
theorem vals_ints : ∀ {vs : List Value} {ns : List Int}, IntsAre vs ns → Vals (ns.map V.int) vs
  | _, _, .nil => .nil
  | _, _, .cons n t h => .cons ⟨t, rfl⟩ (vals_ints h)
end L2
namespace L2
open PySem PySem.Spec PyProof.Rows
end L2
/- THE LAST THEOREM (shape; LID, My.* are yours):
   My.Adr: a structure of the addresses that your layer names (classes, functions); My.Txt K t: a structure (Prop) of the equations over K;
   My.txt_mk : {K} {implicit addresses ..} (e1 : nsIn K mainGlobals "law" = some (some (.ref f))) (e2 : K.lookup f = some ⟨oc, od, .func (fnOf "law" "law" params body scope dV kV doc pm an cdv ct), sl⟩) (e3 : codeIn K cdv "law" = true) .. : ∃ t, My.Txt K t
set_option maxRecDepth 100000 in
set_option maxHeartbeats 0 in
theorem PySem.Challenge.cw_LID_holds : PySem.Challenge.rw_LID.Holds := by
  w_on; o_law; k_head; (case hw => w_witness2)
  k_fill
  refine L2.walk_of (l := PySem.Challenge.rw_LID) (n := 63) (k := 40) (x := "script") (CX := fun w => ..) (sp := fun _ => My.sp_law) rfl (by decide) rfl ⟨rfl, by decide, by decide⟩ (fun w h Y => PySem.W.kIn_of Y) ?F ?S ?C
  case F =>
    intro w mg fa h KX G hmg
    have T : ∃ t, My.Txt (L2.KOf KX) t := by
      dsimp only [L2.KOf]                          -- K must stand as «<heap const> w.params» for k_is
      refine' My.txt_mk ?e1 ?e2 ?e3 ..
      (case e1 => PySem.W.k_is)                    -- in the order: a name -> its address -> its object -> its parts
      (case e2 => PySem.W.k_is)
      ..
    obtain ⟨t, T⟩ := T
    have e0 := hmg.symm.trans (PySem.W.mg_of KX G T.law)
    cases e0                                       -- fa is the law's own address
    exact ⟨_, fun s u => .of_eq rfl, fun base kb nb => My.law_fn T kb nb⟩     -- if «.of_eq rfl» comes too early: refine' ⟨_, ?b, fun base kb nb => My.law_fn T kb nb⟩; exact fun s u => .of_eq rfl
  case S => exact fun w H a ns hl hO hS => ..
  case C => exact ..
(the tactic k_is has no namespace: write k_is) -/
namespace L2
open PySem PySem.Spec PyProof.Rows
/-- the j-th statement of a class's body -/
def inClass (s : Stmt) (j : Nat) : Stmt := match s with
  | .ClassDef _ _ _ body _ _ _ _ _ _ _ => body.getD j (.Pass ⟨0, 0, 0, 0⟩)
  | _ => .Pass ⟨0, 0, 0, 0⟩
def defArgs (s : Stmt) : Arguments := match s with
  | .FunctionDef _ a _ _ _ _ _ _ _ _ => a
  | _ => { posonlyargs := [], args := [], vararg := none, kwonlyargs := [], kw_defaults := [], kwarg := none, defaults := [] }
def defBody (s : Stmt) : List Stmt := match s with
  | .FunctionDef _ _ b _ _ _ _ _ _ _ => b
  | _ => []
def defScope (s : Stmt) : Scope := match s with
  | .FunctionDef _ _ _ _ _ _ sc _ _ _ => sc
  | _ => { kind := .function, names := [], isGenerator := false, isCoroutine := false }
abbrev CX0 : CXT := fun _ _ _ _ _ _ => False
abbrev E0 : XK := fun _ _ _ => False
theorem pass0 {X : Cx} : Passes CX0 X E0 := fun _ _ _ _ _ _ _ h => h.elim
structure Fun (K : PySem.W.Frag) (x qual : Str) (st : Stmt) (f : Addr) (fd : FuncData) : Prop where
  ex : ∃ (oc : Value) (od : Option Addr) (kV doc pm : Value) (an : Option Addr) (cdv ct : Value) (osl : Array (Option Value)),
    fd = PySem.W.fnOf x qual (defArgs st) (defBody st) (defScope st) .none kV doc pm an cdv ct ∧ K.lookup f = some ⟨oc, od, .func fd, osl⟩ ∧ PySem.W.codeIn K cdv qual = true
  kp : PySem.W.keepIn K (.ref f) = true
section
variable {P : Program} {w : World} {K : PySem.W.Frag} {mg : Str → Option Value} {base : Heap}
/-- THE RULE for a def: its body as a term of rules, and the reading of that term -/
theorem Fun.ok {x qual : Str} {st : Stmt} {f : Addr} {fd : FuncData} {N ps : List Str} {k : Nat} {sp : Sp} (F : Fun K x qual st f fd) (S : FnScope N ps (defScope st)) (len : ∀ vs H Q E, sp vs H Q E → vs.length = ps.length)
    (hbody : ∀ (cdv : Value) (A : Around) (outer : List Env) (s : Shared) (H : Hp) (vs : List V) (Q : VK) (E : XK), Room k (A.deeper (envOfC qual (defScope st) s.heap.objs.size f cdv)) → sp vs H Q E →
      ∃ t, PSs (cxOf CX0 P w K mg base N qual (defScope st) f cdv A outer s H E).nox (defBody st) t ∧ t { nx := fun _ H' => Q .non H', rt := Q } (start N vs) H) : FnOk P w K mg base CX0 (k + 1) f fd ps sp := by
  obtain ⟨oc, od, kV, doc, pm, an, cdv, ct, osl, rfl, lk, hcd⟩ := F.ex
  refine fn_of lk hcd S len fun A outer s H vs Q E hr hsp => ?_
  obtain ⟨t, h, q⟩ := hbody cdv A outer s H vs Q E hr hsp
  exact ⟨t, h.nox, q⟩
/-- how its arguments bind (no defaults): h is «fun _ _ _ _ _ _ us hl => match us, hl with | [_, _], _ => rfl», one _ a parameter -/
theorem Fun.binds {x qual : Str} {st : Stmt} {f : Addr} {fd : FuncData} {ps : List Str} (F : Fun K x qual st f fd)
    (h : ∀ (kV doc pm : Value) (an : Option Addr) (cdv ct : Value) (us : List Value), us.length = ps.length → bindArgs (PySem.W.fnOf x qual (defArgs st) (defBody st) (defScope st) .none kV doc pm an cdv ct) ⟨us, []⟩ = pure (ps.zip us)) : Binds K fd ps [] := by
  obtain ⟨oc, od, kV, doc, pm, an, cdv, ct, osl, rfl, lk, hcd⟩ := F.ex
  exact .all (h kV doc pm an cdv ct)
theorem fun_mk {x qual : Str} {st : Stmt} {f : Addr} {oc : Value} {od an : Option Addr} {osl : Array (Option Value)} {kV doc pm cdv ct : Value} (l : K.lookup f = some ⟨oc, od, .func (PySem.W.fnOf x qual (defArgs st) (defBody st) (defScope st) .none kV doc pm an cdv ct), osl⟩)
    (c : PySem.W.codeIn K cdv qual = true) (k : PySem.W.keepIn K (.ref f) = true) : Fun K x qual st f (PySem.W.fnOf x qual (defArgs st) (defBody st) (defScope st) .none kV doc pm an cdv ct) := ⟨⟨oc, od, kV, doc, pm, an, cdv, ct, osl, rfl, l, c⟩, k⟩
end
theorem small1000 {n : Nat} (h : n ≤ 1000) : n < sizeLine := Nat.lt_of_le_of_lt h (by decide)
section
variable {X : Cx}
theorem pv (i : Nat) {x : Str} {pos : Pos} (hN : X.N[i]? = some x := by rfl) (hv : Vis X.env.scope x := by first | exact Or.inl rfl | exact Or.inr (Or.inl rfl) | exact Or.inr (Or.inr rfl)) (hd : (x == ("__debug__" : Str)) = false := by decide)
    (hcd : (x == ("__classdict__" : Str)) = false := by decide) : PE X (.Name x pos) (tVar i) := pe_var hN hv hd hcd
end
theorem iteF {A B : Prop} (h : B) : if false = true then A else B := by
  rw [if_neg Bool.false_ne_true]
  exact h
theorem iteT {A B : Prop} (h : A) : if true = true then A else B := by
  rw [if_pos rfl]
  exact h
theorem ite2 {c A B : Prop} [Decidable c] (h1 : c → A) (h2 : ¬ c → B) : if c then A else B := by
  by_cases h : c
  · rw [if_pos h]
    exact h1 h
  · rw [if_neg h]
    exact h2 h
theorem iteNS {c A B : Prop} [Decidable c] (hc : c) (h : B) : if (!decide c) = true then A else B := by
  rw [decide_eq_true hc]
  exact iteF h
/-- all that was tracked is as it was -/
def Same (H H' : Hp) : Prop := ∀ b o, H b = some o → H' b = some o
theorem Same.refl (H : Hp) : Same H H := fun _ _ h => h
theorem Same.trans {H H1 H2 : Hp} (a : Same H H1) (b : Same H1 H2) : Same H H2 := fun c o h => b c o (a c o h)
theorem Same.free {H H' : Hp} (e : Same H H') {l : Addr} (h : H' l = Option.none) : H l = Option.none := by
  cases q : H l with
  | none => rfl
  | some o =>
    rw [e l o q] at h
    cases h
theorem Same.seq {K : PySem.W.Frag} {H H' : Hp} {a : Addr} {xs : List V} (e : Same H H') (h : SqL K H a xs) : SqL K H' a xs := by
  rcases h with (h | ⟨o, h⟩) | h
  · exact .inl (.inl (e _ _ h))
  · exact .inl (.inr ⟨o, e _ _ h⟩)
  · exact .inr h
end L2
set_option Elab.async false
set_option maxHeartbeats 4000000
namespace L2
open PySem PySem.Spec PyProof.Rows
def gRel (env : Env) (n : Str) (k : NameKind) : NameKind := if (k == NameKind.free && env.scope.kind == .function && env.kindOf n == some .cell) then .cell else k
theorem lookup_relabel {env : Env} {y : Str} : ∀ {names : List (Str × NameKind)},
    (names.map fun (n, k) => if (k == NameKind.free && env.scope.kind == .function && env.kindOf n == some .cell) then (n, NameKind.cell) else (n, k)).lookup y = (names.lookup y).map (gRel env y)
  | [] => rfl
  | (n, k) :: r => by
    have ih := @lookup_relabel env y r
    show List.lookup y ((if (k == NameKind.free && env.scope.kind == .function && env.kindOf n == some .cell) = true then (n, NameKind.cell) else (n, k)) :: _) = _
    have e : (if (k == NameKind.free && env.scope.kind == .function && env.kindOf n == some .cell) = true then (n, NameKind.cell) else (n, k)) = (n, gRel env n k) := by
      unfold gRel; split <;> rfl
    rw [e]
    cases hx : y == n with
    | true =>
      have : y = n := by simpa using hx
      subst this
      simp [List.lookup_cons]
    | false =>
      simp only [List.lookup_cons, hx]; exact ih
theorem names_relabel {scope : Scope} {env : Env} {y : Str} : (relabel scope env).names.lookup y = (scope.names.lookup y).map (gRel env y) := lookup_relabel
theorem closure_ok {env : Env} : ∀ {names : List (Str × NameKind)} (acc : List (Str × Addr)), (∀ n, (n, NameKind.free) ∈ names → ∃ c, env.cells.lookup n = some c) →
    (∀ y c, acc.lookup y = some c → env.cells.lookup y = some c) →
    ∃ cl, (forIn names acc fun x (r : List (Str × Addr)) => (if x.2 == NameKind.free then do let a ← cellOf env x.1; pure (ForInStep.yield ((x.1, a) :: r)) else pure (ForInStep.yield r) : Sem (ForInStep (List (Str × Addr))))) = (pure cl : Sem (List (Str × Addr))) ∧
      (∀ y c, cl.lookup y = some c → env.cells.lookup y = some c) ∧ (∀ y c, acc.lookup y = some c → ∃ c', cl.lookup y = some c') ∧ (∀ n, (n, NameKind.free) ∈ names → ∃ c, cl.lookup n = some c)
  | [], acc, _, ha => ⟨acc, rfl, ha, fun y c e => ⟨c, e⟩, fun _ h => nomatch h⟩
  | (n, k) :: r, acc, h, ha => by
    rw [List.forIn_cons]
    cases hk : k == NameKind.free with
    | true =>
      have ek : k = NameKind.free := by simpa using hk
      subst ek
      obtain ⟨c, hc⟩ := h n List.mem_cons_self
      obtain ⟨cl, e, q1, q2, q3⟩ := @closure_ok env r ((n, c) :: acc) (fun m hm => h m (List.mem_cons_of_mem _ hm)) (fun y d e => by
        rw [List.lookup_cons] at e
        cases hy : y == n with
        | true =>
          rw [hy] at e
          have : y = n := by simpa using hy
          subst this
          cases e; exact hc
        | false => rw [hy] at e; exact ha y d e)
      refine ⟨cl, ?_, q1, fun y d e => ?_, fun m hm => ?_⟩
      · have : cellOf env n = pure c := by unfold cellOf; rw [hc]
        simp only [hk, if_true, this]
        exact e
      · by_cases hy : y = n
        · subst hy
          exact q2 y c (by rw [List.lookup_cons]; simp)
        · have hy' : (y == n) = false := by simpa using hy
          exact q2 y d (by rw [List.lookup_cons, hy']; exact e)
      · rcases List.mem_cons.mp hm with z | z
        · cases z
          exact q2 _ c (by rw [List.lookup_cons]; simp)
        · exact q3 m z
    | false =>
      obtain ⟨cl, e, q1, q2, q3⟩ := @closure_ok env r acc (fun m hm => h m (List.mem_cons_of_mem _ hm)) ha
      refine ⟨cl, ?_, q1, q2, fun m hm => ?_⟩
      · simp only [hk, Bool.false_eq_true, if_false]
        exact e
      · rcases List.mem_cons.mp hm with z | z
        · cases z; simp at hk
        · exact q3 m z
theorem closureFor_ok {env : Env} {scope : Scope} (h : ∀ n, (n, NameKind.free) ∈ scope.names → ∃ c, env.cells.lookup n = some c) :
    ∃ cl, closureFor scope env = pure cl ∧ (∀ y c, cl.lookup y = some c → env.cells.lookup y = some c) ∧ (∀ n, (n, NameKind.free) ∈ scope.names → ∃ c, cl.lookup n = some c) := by
  obtain ⟨cl, e, q1, _, q3⟩ := closure_ok (env := env) [] h (fun y c z => by simp at z)
  refine ⟨cl, ?_, q1, q3⟩
  unfold closureFor
  simp only [bind_pure]
  exact e
section
variable {prog : Program} {w : World} {A : Around} {E : Value → Shared → Prop} {R : Result → Shared → Prop} {s : Shared}
theorem compLoop_own {elt target iter : Expr} {ifs : List Expr} {scope : Scope} {pos : Pos} {it acc : Value} {env : Env} (I : Nat → Shared → Prop)
    (turn : ∀ n s, I n s → wpAny (model prog w) A (pyNext it) (fun r s₁ => match r with
      | none => R (.ok .next) s₁
      | some v => wpAny (model prog w) A (letOwnedTupleGo target it v) (fun _ s₁' => wpAny (model prog w) A (assign target env v) (fun _ s₂ =>
          wpAny (model prog w) A (forIn ifs true fun c r => if r = true then do let ok ← isTrue c env (eval c env); pure (ForInStep.yield ok) else pure (ForInStep.yield r)) (fun ok s₃ =>
            if ok = true then wpAny (model prog w) A (eval elt env) (fun x s₄ =>
              wpAny (model prog w) A (call (.builtin "list.append") [acc, x]) (fun _ s₅ => ∃ m, m < n ∧ I m s₅) (fun _ _ => False) s₄) (fun _ _ => False) s₃
            else ∃ m, m < n ∧ I m s₃) (fun _ _ => False) s₂) (fun _ _ => False) s₁') (fun _ _ => False) s₁) (fun _ _ => False) s)
    (n : Nat) (h : I n s) :
    codeAny (model prog w) A (.compLoop (.ListComp elt [⟨target, iter, ifs, 0⟩] scope pos) 0 it acc env) R s := by
  refine codeAny_loop rfl I (fun n s hI => ?_) n h
  show wpAny _ A ((compTurn (.ListComp elt [⟨target, iter, ifs, 0⟩] scope pos) 0 it acc env).onRaise (fun x => do noteFrame x env; theTreesLotGoes x)) _ _ s
  refine wpAny_noted ?_
  rw [compTurn_list]
  refine wpAny_bind (wpAny_standAt (wpAny_bind (wpAny_mono (turn n s hI) (fun r s₁ h₁ => ?_) fun _ _ h' => h'.elim)))
  cases r with
  | none => exact wpAny_pure h₁
  | some v =>
    refine wpAny_bind (wpAny_mono h₁ (fun _ s₁' h₁' => ?_) fun _ _ h' => h'.elim)
    refine wpAny_bind (wpAny_mono h₁' (fun _ s₂ h₂ => wpAny_bind (wpAny_mono h₂ (fun ok s₃ h₃ => ?_) fun _ _ h' => h'.elim)) fun _ _ h' => h'.elim)
    cases ok with
    | false => exact wpAny_pure ⟨rfl, h₃⟩
    | true =>
      exact wpAny_bind (wpAny_bind (wpAny_mono h₃ (fun x s₄ h₄ => wpAny_bind (wpAny_mono h₄ (fun _ s₅ h₅ => wpAny_pure (wpAny_pure ⟨rfl, h₅⟩)) fun _ _ h' => h'.elim)) fun _ _ h' => h'.elim))
end
/-- the block's context: the loop's name is slot 0, the names around it follow -/
def cxLC (X : Cx) (scope : Scope) (cl : List (Str × Addr)) (C : Addr) (x : Str) (s0 : Shared) (H0 : Hp) (fp : List Addr) (pn : List (Addr × Obj)) : Cx :=
  { X with N := x :: X.N, s₀ := s0, H₀ := H0, env := compEnvC scope cl C X.env, outer := X.stack, stack := X.stack, ex := fp, fn := fun _ => false, pn := pn, xe := fun _ _ => False }
/-- the tests of a clause -/
def PTs (X : Cx) (ifs : List Expr) (t : TT) : Prop :=
  ∀ (pins : List (Addr × Obj)) (s : Shared) (σ : St) (H : Hp) (Q : Bool → Hp → Prop), Inv X pins σ H s → t σ H Q →
    wpAny (model X.prog X.w) X.A (forIn ifs true fun c r => if r = true then do let ok ← isTrue c X.env (eval c X.env); pure (ForInStep.yield ok) else pure (ForInStep.yield r)) (TP X pins σ Q) X.xe s
def tYes : TT := fun _ H Q => Q true H
theorem pts_nil {X : Cx} : PTs X [] tYes := fun _ _ _ H _ I h => wpAny_tests_nil ⟨H, I, h⟩
theorem pts_one {X : Cx} {c : Expr} {t : TT} (hc : PT X c t) : PTs X [c] t := fun pins s σ H Q I h => wpAny_tests_one (hc pins s σ H Q I h)
/-- what a comprehension with the readings tc, te wants of the iterator J -/
def LCw (J : It) (tc : TT) (te : TE) (σ : St) (H1 : Hp) (Q : VK) : Prop := ∃ W : Nat → Nat → List V → Hp → Prop, (∃ m, W 0 m [] H1) ∧ ∀ i m ys H, W i m ys H →
  (J.stop i H ∧ ∀ p, H p = none → Q (.ref p) (upd H p (.lst ys))) ∨
  (J.go i H ∧ ys.length < sizeLine ∧ ∃ N : List V → Hp → Prop, (∀ zs H', N zs H' → ∃ m', m' < m ∧ W (i + 1) m' zs H') ∧ ∀ x H', J.yld i H x H' → tc (some x :: σ) H' fun c H2 =>
    if c = true then te (some x :: σ) H2 fun y H3 => N (ys ++ [y]) H3 else N ys H2)
/-- W: the invariant by the turn, a measure and what stands in the new list so far -/
def tLC (wi : TI) (tc : TT) (te : TE) : TE := fun σ H Q => wi σ H fun J H1 => LCw J tc te σ H1 Q
abbrev lobj (its : List Value) (n : Nat) : Obj := { cls := .type "list", data := .seq its.toArray n }
theorem Un.late {fs ex : List Addr} {H H' : Hp} {h h1 h' : Heap} {D : Addr} {o : HO} (u : Un fs ex H H' h h1) (hlt : ∀ b q, H b = some q → b < h.objs.size) (hD : h.objs.size ≤ D) (k : ∀ b, b < h.objs.size → h'.get? b = h1.get? b) : Un fs ex H (upd H' D o) h h' where
  keep := fun b q e n hb hx => (k b (Heap.lt_size e)).trans (u.keep b q e n hb hx)
  slot := fun b q e n hb hx => by
    obtain ⟨sl, e'⟩ := u.slot b q e n hb hx
    exact ⟨sl, (k b (Heap.lt_size e)).trans e'⟩
  free := fun b q e n hx => by
    rw [upd_ne (Nat.ne_of_lt (Nat.lt_of_lt_of_le (Heap.lt_size e) hD))]; exact u.free b q e n hx
  there := fun b q e hx => by
    obtain ⟨o', e'⟩ := u.there b q e hx
    exact ⟨o', (k b (Heap.lt_size e)).trans e'⟩
  tups := fun b xs e => by rw [upd_ne (Nat.ne_of_lt (Nat.lt_of_lt_of_le (hlt b _ e) hD))]; exact u.tups b xs e
  frzs := fun b q xs e => by rw [upd_ne (Nat.ne_of_lt (Nat.lt_of_lt_of_le (hlt b _ e) hD))]; exact u.frzs b q xs e
  tbls := fun b ps e => by rw [upd_ne (Nat.ne_of_lt (Nat.lt_of_lt_of_le (hlt b _ e) hD))]; exact u.tbls b ps e
theorem pe_lc {X : Cx} {x : Str} {px : Pos} {iter elt : Expr} {ifs : List Expr} {scope : Scope} {pos : Pos} {wi : TI} {tc : TT} {te : TE} (hc : X.calm = true) (hnd : X.N.Nodup) (hi : PI X (.Name x px) iter wi)
    (ht : ∀ cl C s0 H0 fp pn, PTs (cxLC X scope cl C x s0 H0 fp pn) ifs tc) (he : ∀ cl C s0 H0 fp pn, PE (cxLC X scope cl C x s0 H0 fp pn) elt te)
    (hN : ∀ y ∈ X.N, scope.names.lookup y ≠ some .local) (hx : scope.names.lookup x = some .local)
    (hfree : ∀ y ∈ scope.names, y.2 = .free → X.env.kindOf y.1 = some .cell) (hcell : ∀ y ∈ scope.names, y.2 ≠ .cell)
    (hnames : ∀ y ∈ scope.names, y.2 = .local → scope.names.lookup y.1 = some .local) (hkind : scope.kind = .function := by rfl)
    (hs : ∀ x, foldedSetIterable iter X.env x = pure x := by intro _; rfl) : PE X (.ListComp elt [⟨.Name x px, iter, ifs, 0⟩] scope pos) (tLC wi tc te) := by
  intro pins s σ H Q I h
  obtain ⟨cl, hclos, hcl1, hcl2⟩ := closureFor_ok (env := X.env) (scope := scope) fun n hn => I.ok.has n (.inl (hfree (n, .free) hn rfl))
  rw [eval_ListComp]
  refine wpAny_comprehension_free (use := none) rfl hs hclos hkind hnames (thn (hi pins s σ H _ I h) fun xv s1 h1 => thn h1 fun itv s2 h2 => ?_)
  obtain ⟨it, fp, tn, J, H2, e, I2, T, st2, f2, W, ⟨m0, w0⟩, turn⟩ := h2
  subst e
  refine wpAny_newObj_type (wpAny_newFunctionEnv hcell (by intro y hy; simp at hy) (fun h₁ hns₁ hsb₁ => ?_) hkind)
  dsimp only at hns₁ hsb₁ ⊢
  generalize hH2 : s2.heap.push { cls := .type "list", dict := none, data := .seq ([] : List Value).toArray } = HH at hns₁ hsb₁ ⊢
  have hC : HH.objs.size = s2.heap.objs.size + 1 := by rw [← hH2, Heap.size_push]
  have hDC : s2.heap.objs.size ≠ HH.objs.size := by rw [hC]; exact Nat.ne_of_lt (Nat.lt_succ_self _)
  have below : ∀ b, b < s2.heap.objs.size → b ≠ HH.objs.size ∧ b ≠ s2.heap.objs.size := fun b hb => ⟨by rw [hC]; exact Nat.ne_of_lt (Nat.lt_succ_of_lt hb), Nat.ne_of_lt hb⟩
  have old : ∀ b o, s2.heap.get? b = some o → h₁.get? b = some o := fun b o e => hsb₁.extBut b o (below b (Heap.lt_size e)).1 (Heap.get?_push_of_some _ (hH2 ▸ Heap.get?_push_of_some _ e))
  have hacc : h₁.get? s2.heap.objs.size = some (lobj [] 0) := hsb₁.extBut _ _ hDC (Heap.get?_push_of_some _ (hH2 ▸ Heap.get?_push_size _ rfl))
  have hfpo := T.obj 0 _ st2
  have hfplt : ∀ b ∈ fp, b < s2.heap.objs.size := fun b hb => by
    obtain ⟨o, e, _⟩ := hfpo b hb
    exact Heap.lt_size e
  have stl : ∀ b ∈ frs X.stack, b < s2.heap.objs.size := fun b hb => by
    obtain ⟨_, o, ho, _⟩ := I2.stack.mem hb
    exact Heap.lt_size ho
  have celt : ∀ y c, X.env.cells.lookup y = some c → c < s2.heap.objs.size := fun y c e => by
    obtain ⟨v, q⟩ := I2.cell y c e
    exact q.lt
  have hpf : ∀ p ∈ X.pn ++ pins, p.1 ∉ frs X.stack := fun p hp z => by
    obtain ⟨_, _, n1, n2, _⟩ := I2.pin p hp
    rcases List.mem_cons.mp (I2.stkSub _ z) with q | q
    · exact n1 q
    · exact n2 q
  -- the block's context
  have okX : (cxLC X scope cl HH.objs.size x s2 H2 fp (X.pn ++ pins)).Ok := by
    refine ⟨I2.ok.mod, hkind, I2.ok.glob, I2.ok.blt, ?_, fun y z c e1 e2 => I2.ok.inj y z c (hcl1 _ _ e1) (hcl1 _ _ e2), fun y hy => ?_, fun y c hf => (nomatch hf), I2.ok.hd, I2.ok.frames, .inl rfl, fun b hb => ?_, I2.bs, ?_, fun b o e hb => ?_, fun b hb => ?_, I2.stack, I2.stkFree⟩
    · show s2.heap.objs.size ≤ HH.objs.size
      rw [hC]; exact Nat.le_succ _
    · have hy' : (relabel scope X.env).names.lookup y = some .cell ∨ (relabel scope X.env).names.lookup y = some .free := hy
      rw [names_relabel] at hy'
      have : scope.names.lookup y = some .free := by
        cases q : scope.names.lookup y with
        | none => rw [q] at hy'; rcases hy' with z | z <;> cases z
        | some k =>
          have hm := PySem.mem_of_lookup q
          rw [q] at hy'
          have hk : gRel X.env y k = .cell ∨ gRel X.env y k = .free := by simpa using hy'
          unfold gRel at hk
          split at hk
          · rename_i c
            simp at c
            rw [c.1.1]
          · rcases hk with z | z
            · exact absurd z (hcell _ hm)
            · rw [z]
      exact hcl2 y (PySem.mem_of_lookup this)
    · refine ⟨?_, fun y c e z => (f2 b hb).2.2.2.2.1 y c (hcl1 _ _ e) z⟩
      exact (below b (hfplt b hb)).1
    · exact Nat.le_trans I2.ok.bsz I2.sz
    · have := (I2.bs b o e).2
      rcases (f2 b hb).2.2.2.1 with z | z
      · exact I2.ok.noex b o e z
      · exact absurd (Nat.lt_of_lt_of_le (Heap.lt_size (I2.ok.bs b o e).1) z) (Nat.lt_irrefl _)
    · intro z
      rcases List.mem_cons.mp (I2.stkSub _ z) with q | q
      · exact (f2 b hb).2.1 q
      · exact (f2 b hb).2.2.1 q
  have start : ∀ t, Inv (cxLC X scope cl HH.objs.size x s2 H2 fp (X.pn ++ pins)) [(s2.heap.objs.size, lobj [] 0)] (none :: σ) H2 { s2 with heap := h₁, toks := t } := fun t => by
    refine ⟨okX, rfl, I2.bare, Un.kept old, ⟨_, hns₁, fun i y v e1 e2 e3 => ?_⟩, fun y c e => ?_, I2.hok.fresh (by show s2.heap.objs.size ≤ HH.objs.size; rw [hC]; exact Nat.le_succ _), fun y c e => I2.freeC y c (hcl1 _ _ e), fun p hp => ?_, I2.hok.kept old, ?_⟩
    · cases i with
      | zero => cases e2
      | succ j =>
        have e1' : X.N[j]? = some y := e1
        have e2' : σ[j]? = some (some v) := e2
        have hyN : y ∈ X.N := List.mem_of_getElem? e1'
        have e3' : Vis (relabel scope X.env) y := e3
        unfold Vis at e3'
        rw [names_relabel] at e3'
        cases q : scope.names.lookup y with
        | none => rw [q] at e3'; rcases e3' with z | z | z <;> cases z
        | some k =>
          have hm := PySem.mem_of_lookup q
          rw [q] at e3'
          have kf : k = .free := by
            have hk : gRel X.env y k = .local ∨ gRel X.env y k = .cell ∨ gRel X.env y k = .free := by simpa using e3'
            unfold gRel at hk
            split at hk
            · rename_i c; simp at c; exact c.1.1
            · rcases hk with z | z | z
              · exact absurd (q.trans (congrArg some z)) (hN y hyN)
              · exact absurd z (hcell _ hm)
              · exact z
          subst kf
          have kc := hfree _ hm rfl
          obtain ⟨m, hn, hl⟩ := I2.loc
          obtain ⟨u, ru, lk⟩ := hl j y v e1' e2' (.inr (.inl kc))
          refine ⟨u, ru, ?_⟩
          rcases lk with ⟨z, _⟩ | ⟨_, c, ec, hcell'⟩
          · rw [kc] at z; cases z
          · obtain ⟨c', ec'⟩ := hcl2 y hm
            have : c' = c := by have z := hcl1 _ _ ec'; rw [ec] at z; exact (Option.some.inj z).symm
            subst this
            refine .inr ⟨.inl ?_, c', ec', ?_⟩
            · show (relabel scope X.env).names.lookup y = some .cell
              rw [names_relabel, q]
              show some (gRel X.env y .free) = _
              unfold gRel
              rw [I2.ok.kind, kc]; rfl
            · obtain ⟨o, ho, hd⟩ := hcell'
              exact ⟨o, old _ _ ho, hd⟩
    · obtain ⟨v, o, ho, hd⟩ := I2.cell y c (hcl1 _ _ e)
      exact ⟨v, o, old _ _ ho, hd⟩
    · rcases List.mem_append.mp hp with hp | hp
      · obtain ⟨a1, a2, a3, a4, a5⟩ := I2.pin p hp
        exact ⟨old _ _ a1, a2, (below _ (Heap.lt_size a1)).1, hpf p hp, a5⟩
      · have ep : p = (s2.heap.objs.size, lobj [] 0) := by simpa using hp
        subst ep
        exact ⟨hacc, I2.hok.fresh (Nat.le_refl _), hDC, fun z => absurd (stl _ z) (Nat.lt_irrefl _), fun v z => nomatch z⟩
    · show (none :: σ).length = (x :: X.N).length
      rw [List.length_cons, List.length_cons, I2.len]
  have fpo : ∀ {H' : Hp} {pl : List (Addr × Obj)}, (∀ b ∈ fp, H' b = none) → (∀ p ∈ pl, p.1 = s2.heap.objs.size) → ∀ b ∈ fp, FpOk (cxLC X scope cl HH.objs.size x s2 H2 fp (X.pn ++ pins)) pl H' b := fun hn hpl b hb => by
    obtain ⟨_, a2, a3, a4, a5, a6⟩ := f2 b hb
    refine ⟨hn b hb, (below b (hfplt b hb)).1, fun z => ?_, .inl hb, fun y c e z => a5 y c (hcl1 _ _ e) z, fun p hp z => ?_⟩
    · rcases List.mem_cons.mp (I2.stkSub _ z) with q | q
      · exact a2 q
      · exact a3 q
    · rcases List.mem_append.mp hp with hp | hp
      · exact a6 p hp z
      · have := hpl p hp
        rw [this] at z
        exact (below b (hfplt b hb)).2 z.symm
  have hnd' : (x :: X.N).Nodup := List.nodup_cons.mpr ⟨fun z => hN x z hx, hnd⟩
  have loop : ∀ t, codeAny (model X.prog X.w) X.A (.compLoop (.ListComp elt [⟨.Name x px, iter, ifs, 0⟩] scope pos) 0 (.ref it) (.ref s2.heap.objs.size) (compEnvC scope cl HH.objs.size X.env))
      (compPost (model X.prog X.w) X.A X.xe none (EP X pins σ Q) (.ref s2.heap.objs.size) HH.objs.size) { s2 with heap := h₁, toks := t } := fun t => by
    refine compLoop_own (fun n s' => ∃ i ys its k H', Inv (cxLC X scope cl HH.objs.size x s2 H2 fp (X.pn ++ pins)) [(s2.heap.objs.size, lobj its k)] (none :: σ) H' s' ∧ Vals ys its ∧ ys.length ≤ sizeLine ∧ tn i s'.heap ∧ (∀ b ∈ fp, H' b = none) ∧ W i n ys H') ?_ m0
      ⟨0, [], [], 0, H2, start t, .nil, Nat.zero_le _, T.keep _ _ _ st2 fun b _ o e => old b o e, fun b hb => (f2 b hb).1, w0⟩
    rintro n s3 ⟨i, ys, its, k, H3, I3, r3, z3, st3, fr3, w3⟩
    have hone : ∀ p ∈ [(s2.heap.objs.size, lobj its k)], p.1 = s2.heap.objs.size := fun p hp => by
      have : p = (s2.heap.objs.size, lobj its k) := by simpa using hp
      rw [this]
    rcases turn i n ys H3 w3 with ⟨stop, qn⟩ | ⟨go, zlt, NN, hNN, step⟩
    · refine thn (T.done (cxLC X scope cl HH.objs.size x s2 H2 fp (X.pn ++ pins)) rfl rfl rfl hc i _ s3 (none :: σ) H3 (fun _ _ => False) I3 (fpo fr3 hone) st3 stop) fun r s4 ⟨hr, I4⟩ => ?_
      subst hr
      obtain ⟨m, hm, _⟩ := I4.loc
      refine ⟨m, hm, fun h' sb => ?_⟩
      have pD := I4.pin (s2.heap.objs.size, lobj its k) (List.mem_append_right _ List.mem_cons_self)
      have gD : h'.get? s2.heap.objs.size = some (lobj its k) := (sb.2 _ hDC).trans pD.1
      refine ⟨.ref s2.heap.objs.size, upd H3 s2.heap.objs.size (.lst ys), I2.call' (ch := fp) (I4.os) (Un.late I4.base (fun b q e => I2.hok.lt e) (Nat.le_refl _) fun b hb => sb.2 b (below b hb).1) (fun b u e => ?_) I4.bare (fun b hb => ?_), rfl, qn _ pD.2.1⟩
      · by_cases hb : b = s2.heap.objs.size
        · subst hb
          rw [upd_same] at e
          cases e
          exact ⟨z3, its, k, r3, gD⟩
        · rw [upd_ne hb] at e
          refine (I4.hok b u e).stay (fun c v hcc q => (sb.2 c ?_).trans q) (fun c q => ?_) fun c xs q => ?_
          · rintro rfl
            have fr := I4.free
            rcases hcc with z | z
            · rw [← z] at e; rw [show (cxLC X scope cl HH.objs.size x s2 H2 fp (X.pn ++ pins)).env.locals = HH.objs.size from rfl] at fr; rw [fr] at e; cases e
            · rw [show (cxLC X scope cl HH.objs.size x s2 H2 fp (X.pn ++ pins)).env.locals = HH.objs.size from rfl] at fr; rw [fr] at z; cases z
          · rw [upd_ne (ne_of_none q pD.2.1)]; exact q
          · rw [upd_ne (ne_of_none q pD.2.1)]; exact q
      · obtain ⟨_, a2, _, a4, a5, a6⟩ := f2 b hb
        exact ⟨a4, a2, a5, a6⟩
    · refine thn (T.item (cxLC X scope cl HH.objs.size x s2 H2 fp (X.pn ++ pins)) rfl rfl rfl hc i _ s3 (none :: σ) H3 (fun _ _ => False) I3 (fpo fr3 hone) st3 go) fun r s4 ⟨u, hr, h4⟩ => ?_
      subst hr
      refine thn h4 fun _ s5 ⟨v, H5, I5, r5, y5, st5, fr5⟩ => ?_
      have I5' := I5.pinned (fpo fr5 hone) (T.obj _ _ st5)
      refine wpAny_assign_Name (store_ok (X := cxLC X scope cl HH.objs.size x s2 H2 fp (X.pn ++ pins)) (i := 0) I5' hnd' rfl (.inl (by show (relabel scope X.env).names.lookup x = _; rw [names_relabel, hx]; rfl)) r5 (fun s6 I6 => ?_) (.inr (by show (relabel scope X.env).names.lookup x = _; rw [names_relabel, hx]; rfl)))
      have I6' : Inv (cxLC X scope cl HH.objs.size x s2 H2 fp (X.pn ++ pins)) ([(s2.heap.objs.size, lobj its k)] ++ pinsAt fp s5.heap) (some v :: σ) H5 s6 := I6
      refine thn (ht cl HH.objs.size s2 H2 fp (X.pn ++ pins) _ s6 _ H5 _ I6' (step v H5 y5)) fun c s7 ⟨H7, I7, q7⟩ => ?_
      -- what the block's state says of the iterator and the list
      have again : ∀ {H9 : Hp} {s9 : Shared} {σ9 : St} {zs : List V} {jts : List Value} {k' : Nat}, Inv (cxLC X scope cl HH.objs.size x s2 H2 fp (X.pn ++ pins)) ([(s2.heap.objs.size, lobj jts k')] ++ pinsAt fp s5.heap) (some v :: σ) H9 s9 → Vals zs jts → zs.length ≤ sizeLine → NN zs H9 →
          ∃ m, m < n ∧ ∃ i ys its k H', Inv (cxLC X scope cl HH.objs.size x s2 H2 fp (X.pn ++ pins)) [(s2.heap.objs.size, lobj its k)] (none :: σ) H' s9 ∧ Vals ys its ∧ ys.length ≤ sizeLine ∧ tn i s9.heap ∧ (∀ b ∈ fp, H' b = none) ∧ W i m ys H' := fun {H9 s9 σ9 zs jts k'} I9 r9 z9 n9 => by
        obtain ⟨m', hm, w9⟩ := hNN zs H9 n9
        refine ⟨m', hm, i + 1, zs, jts, k', H9, (I9.unpinned.weak (σ' := none :: σ) rfl fun j v' e => ?_), r9, z9, T.keep _ _ _ st5 fun b hb o e => (I9.pin (b, o) (List.mem_append_right _ (List.mem_append_right _ (mem_pinsAt hb e)))).1, fun b hb => ?_, w9⟩
        · cases j with
          | zero => cases e
          | succ j => exact e
        · obtain ⟨o, e, d⟩ := T.obj _ _ st5 b hb
          exact (I9.pin (b, o) (List.mem_append_right _ (List.mem_append_right _ (mem_pinsAt hb e)))).2.1
      cases c with
      | false =>
        simp only [Bool.false_eq_true, if_false] at q7 ⊢
        exact again (σ9 := []) I7 r3 z3 q7
      | true =>
        simp only [if_true] at q7 ⊢
        refine thn (he cl HH.objs.size s2 H2 fp (X.pn ++ pins) _ s7 _ H7 _ I7 q7) fun u8 s8 ⟨y, H8, I8, r8, q8⟩ => ?_
        have pD := I8.pin (s2.heap.objs.size, lobj its k) (List.mem_append_right _ (List.mem_append_left _ List.mem_cons_self))
        refine append_at (hsz := by rw [List.size_toArray, ← r3.length]; exact z3) pD.1 fun h9 sb9 hD9 => ?_
        have e9 : ({ cls := .type "list", data := .seq (its.toArray.push u8) (k + 1) } : Obj) = lobj (its ++ [u8]) (k + 1) := by
          show _ = ({ cls := .type "list", data := .seq (its ++ [u8]).toArray (k + 1) } : Obj)
          rw [List.push_toArray]
        rw [e9] at hD9
        have Ia : Inv (cxLC X scope cl HH.objs.size x s2 H2 fp (X.pn ++ pins)) (pinsAt fp s5.heap) (some v :: σ) H8 s8 := I8.pins_of fun p hp => I8.pin p (List.mem_append_right _ (List.mem_append_right _ hp))
        have nfp : ∀ p ∈ pinsAt fp s5.heap, p.1 ≠ s2.heap.objs.size := fun p hp => (below _ (hfplt _ (of_pinsAt hp).1)).2
        have Ib : Inv (cxLC X scope cl HH.objs.size x s2 H2 fp (X.pn ++ pins)) (pinsAt fp s5.heap) (some v :: σ) H8 { s8 with heap := h9, toks := s8.toks } := by
          refine Ia.turned (it := s2.heap.objs.size) (fun b o hb e => (sb9.2 b hb).trans e) pD.2.1 pD.2.2.1 (.inr (Nat.le_refl _)) (fun y' c e z => absurd (celt _ _ (hcl1 _ _ e)) (by rw [z]; exact Nat.lt_irrefl _)) fun p hp => ?_
          rcases List.mem_append.mp hp with hp | hp
          · exact (below _ (Heap.lt_size (I2.pin p hp).1)).2
          · exact nfp p hp
        refine again (σ9 := []) (zs := ys ++ [y]) (jts := its ++ [u8]) (k' := k + 1) (Ib.pins_of fun p hp => ?_) (r3.append (.cons r8 .nil)) (by rw [List.length_append]; exact zlt) q8
        rcases List.mem_append.mp hp with hp | hp
        · have ep : p = (s2.heap.objs.size, lobj (its ++ [u8]) (k + 1)) := by simpa using hp
          subst ep
          exact ⟨hD9, pD.2.1, pD.2.2.1, pD.2.2.2.1, fun v z => nomatch z⟩
        · exact Ib.pin p (List.mem_append_right _ hp)
  exact codeAny_compStart_list (loop _) (T.self _ 0 _ _ _ (T.keep _ _ _ st2 fun b _ o e => old b o e) (loop _))
/-- the names of a comprehension's block, looked over -/
def lcOk (N : List Str) (names outer : List (Str × NameKind)) (x : Str) : Bool :=
  N.all (fun y => names.lookup y != some .local) && (names.lookup x == some .local && names.all fun y => (y.2 != .free || outer.lookup y.1 == some .cell) && (y.2 != .cell && (y.2 != .local || names.lookup y.1 == some .local)))
theorem pe_lcB {X : Cx} {x : Str} {px : Pos} {iter elt : Expr} {ifs : List Expr} {scope : Scope} {pos : Pos} {wi : TI} {tc : TT} {te : TE} (hc : X.calm = true) (hnd : X.N.Nodup) (hi : PI X (.Name x px) iter wi)
    (ht : ∀ cl C s0 H0 fp pn, PTs (cxLC X scope cl C x s0 H0 fp pn) ifs tc) (he : ∀ cl C s0 H0 fp pn, PE (cxLC X scope cl C x s0 H0 fp pn) elt te) (hok : lcOk X.N scope.names X.env.scope.names x = true) (hkind : scope.kind = .function := by rfl)
    (hs : ∀ x, foldedSetIterable iter X.env x = pure x := by intro _; rfl) : PE X (.ListComp elt [⟨.Name x px, iter, ifs, 0⟩] scope pos) (tLC wi tc te) := by
  unfold lcOk at hok
  rw [Bool.and_eq_true, Bool.and_eq_true, List.all_eq_true, List.all_eq_true] at hok
  obtain ⟨h1, h2, h3⟩ := hok
  refine pe_lc hc hnd hi ht he (fun y hy => ?_) (by simpa using h2) (fun y hy e => ?_) (fun y hy => ?_) (fun y hy e => ?_) hkind hs
  · simpa using h1 y hy
  · have := h3 y hy
    rw [e] at this
    simp at this
    exact this
  · have := h3 y hy
    intro e
    rw [e] at this
    simp at this
  · have := h3 y hy
    rw [e] at this
    simpa using this
theorem lc_range {lo : Int} {n : Nat} {tc : TT} {te : TE} {σ : St} {H : Hp} {Q : VK} (Pv : Nat → List V → Hp → Prop) (h0 : Pv 0 [] H) (hz : n ≤ 1000) (hl : ∀ i ys H, Pv i ys H → ys.length ≤ i)
    (hs : ∀ i ys H, i < n → Pv i ys H → tc (some (.int (lo + i)) :: σ) H fun c H2 => if c = true then te (some (.int (lo + i)) :: σ) H2 fun y H3 => Pv (i + 1) (ys ++ [y]) H3 else Pv (i + 1) ys H2)
    (hd : ∀ ys H, Pv n ys H → ∀ p, H p = none → Q (.ref p) (upd H p (.lst ys))) : LCw (Itr lo n) tc te σ H Q := by
  refine ⟨fun i m ys H => m = n - i ∧ i ≤ n ∧ Pv i ys H, ⟨n, by simp, Nat.zero_le _, h0⟩, ?_⟩
  rintro i m ys H ⟨rfl, hi, p⟩
  by_cases hlt : i < n
  · refine .inr ⟨hlt, small1000 (by have := hl i ys H p; omega), Pv (i + 1), fun zs H' p' => ⟨n - (i + 1), by omega, rfl, hlt, p'⟩, fun x H' y => ?_⟩
    obtain ⟨e1, e2⟩ := y
    subst e1 e2
    exact hs i ys _ hlt p
  · have e : i = n := by omega
    subst e
    exact .inl ⟨Nat.le_refl _, hd ys H p⟩
theorem lc_list {K : PySem.W.Frag} {a : Addr} {xs : List V} {tc : TT} {te : TE} {σ : St} {H : Hp} {Q : VK} (Pv : Nat → List V → Hp → Prop) (h0 : Pv 0 [] H) (hz : xs.length ≤ 1000) (hl : ∀ i ys H, Pv i ys H → ys.length ≤ i) (hk : ∀ i ys H, i ≤ xs.length → Pv i ys H → SqL K H a xs)
    (hs : ∀ i x ys H, xs[i]? = some x → Pv i ys H → tc (some x :: σ) H fun c H2 => if c = true then te (some x :: σ) H2 fun y H3 => Pv (i + 1) (ys ++ [y]) H3 else Pv (i + 1) ys H2)
    (hd : ∀ ys H, Pv xs.length ys H → ∀ p, H p = none → Q (.ref p) (upd H p (.lst ys))) : LCw (Itl K a) tc te σ H Q := by
  refine ⟨fun i m ys H => m = xs.length - i ∧ i ≤ xs.length ∧ Pv i ys H, ⟨xs.length, by simp, Nat.zero_le _, h0⟩, ?_⟩
  rintro i m ys H ⟨rfl, hi, p⟩
  have q := hk i ys H hi p
  by_cases hlt : i < xs.length
  · refine .inr ⟨⟨xs, xs[i], q, by simp [hlt]⟩, small1000 (by have := hl i ys H p; omega), Pv (i + 1), fun zs H' p' => ⟨xs.length - (i + 1), by omega, rfl, hlt, p'⟩, fun x H' y => ?_⟩
    obtain ⟨e, y⟩ := y
    subst e
    exact hs i x ys _ (y xs q) p
  · have e : i = xs.length := by omega
    subst e
    exact .inl ⟨⟨xs, q, Nat.le_refl _⟩, hd ys H p⟩
theorem lc_rangeY {lo : Int} {n : Nat} {te : TE} {σ : St} {H : Hp} {Q : VK} (Pv : Nat → List V → Hp → Prop) (h0 : Pv 0 [] H) (hz : n ≤ 1000) (hl : ∀ i ys H, Pv i ys H → ys.length ≤ i)
    (hs : ∀ i ys H, i < n → Pv i ys H → te (some (.int (lo + i)) :: σ) H fun y H3 => Pv (i + 1) (ys ++ [y]) H3)
    (hd : ∀ ys H, Pv n ys H → ∀ p, H p = none → Q (.ref p) (upd H p (.lst ys))) : LCw (Itr lo n) tYes te σ H Q :=
  lc_range Pv h0 hz hl (fun i ys H hi p => iteT (B := Pv (i + 1) ys H) (hs i ys H hi p)) hd
theorem lc_listY {K : PySem.W.Frag} {a : Addr} {xs : List V} {te : TE} {σ : St} {H : Hp} {Q : VK} (Pv : Nat → List V → Hp → Prop) (h0 : Pv 0 [] H) (hz : xs.length ≤ 1000) (hl : ∀ i ys H, Pv i ys H → ys.length ≤ i) (hk : ∀ i ys H, i ≤ xs.length → Pv i ys H → SqL K H a xs)
    (hs : ∀ i x ys H, xs[i]? = some x → Pv i ys H → te (some x :: σ) H fun y H3 => Pv (i + 1) (ys ++ [y]) H3)
    (hd : ∀ ys H, Pv xs.length ys H → ∀ p, H p = none → Q (.ref p) (upd H p (.lst ys))) : LCw (Itl K a) tYes te σ H Q :=
  lc_list Pv h0 hz hl hk (fun i x ys H hi p => iteT (B := Pv (i + 1) ys H) (hs i x ys H hi p)) hd
end L2
set_option Elab.async false
set_option maxHeartbeats 4000000
namespace L2
open PySem PySem.Spec PyProof.Rows
structure DefOk (P : Program) (w : World) (K : PySem.W.Frag) (mg : Str → Option Value) (base : Heap) (CX : CXT) (x : Str) (k : Nat) (ps : List Str) (sp : Sp) : Prop where
  ex : ∃ f fd, FnOk P w K mg base CX k f fd ps sp ∧ Binds K fd ps [] ∧ PySem.W.keepIn K (.ref f) = true ∧ mg x = some (.ref f)
structure MethOk (P : Program) (w : World) (K : PySem.W.Frag) (mg : Str → Option Value) (base : Heap) (CX : CXT) (C : Addr) (m : Str) (k : Nat) (ps : List Str) (sp : Sp) : Prop where
  cls : Cls K C
  ex : ∃ f fd, FnOk P w K mg base CX k f fd ps sp ∧ Binds K fd ps [] ∧ Meth K C m f
structure ClsOk (P : Program) (w : World) (K : PySem.W.Frag) (mg : Str → Option Value) (base : Heap) (CX : CXT) (x : Str) (C : Addr) (k : Nat) (ps : List Str) (sp : Sp) : Prop where
  ex : ∃ f fd, FnOk P w K mg base CX k f fd ps sp ∧ Binds K fd ps [] ∧ Mk K C f ∧ mg x = some (.ref C)
section
variable {X : Cx} {CX : CXT} {j k : Nat} {C : Addr} {ps : List Str} {sp : Sp} {E : XK} {x m : Str} {p pos apos : Pos} {e o : Expr} {es : List Expr} {ta : TE} {t : TA}
theorem pe_def (D : DefOk X.prog X.w X.K X.mg X.base CX x j ps sp) (hr : Room k X.A) (hx : Passes CX X E) (ha : PA X (e :: es) t) (hjk : j ≤ k := by decide) (hg : Gl X x := by rfl) (hdb : (x == ("__debug__" : Str)) = false := by decide)
    (he : starEach (e :: es) X.env = (false, eval e X.env) :: starEach es X.env := by rfl) (hpl : (backTo pos (starEach es X.env)).any (·.1) = false := by rfl) : PE X (.Call (.Name x p) (e :: es) [] pos) (tCall sp [] E t) := by
  obtain ⟨f, fd, h1, h2, h3, h4⟩ := D.ex
  exact pe_call h1 (hr.mono hjk) hg h4 h3 h2 .nil hx ha hdb he hpl
theorem pe_me {pl : Sem Bool} (ho : PE X o ta) (M : MethOk X.prog X.w X.K X.mg X.base CX C m j ps sp) (hr : Room k X.A) (hx : Passes CX X E) (ha : PA X (e :: es) t) (hjk : j ≤ k := by decide)
    (hst : starEach (e :: es) X.env = (false, eval e X.env) :: starEach es X.env := by rfl) (hpl : (backTo pos (starEach es X.env)).any (·.1) = false := by rfl)
    (ht : eval (.Call (.Attribute o m apos) (e :: es) [] pos) X.env = (do
      let ov ← eval o X.env
      standAt apos.atName
      let (f, first) ← holding [ov] (getMethod ov m pl)
      callWith pos f first (backTo pos (starEach (e :: es) X.env)) (backToKw pos (keywordEach [] X.env))) := by rfl) :
    PE X (.Call (.Attribute o m apos) (e :: es) [] pos) (tMeth C m sp [] E ta t) := by
  obtain ⟨f, fd, h1, h2, h3⟩ := M.ex
  exact pe_meth ho M.cls h3 h1 (hr.mono hjk) h2 .nil hx ha hst hpl ht
theorem pe_me0 {pl : Sem Bool} (ho : PE X o ta) (M : MethOk X.prog X.w X.K X.mg X.base CX C m j ps sp) (hr : Room k X.A) (hx : Passes CX X E) (hjk : j ≤ k := by decide)
    (ht : eval (.Call (.Attribute o m apos) [] [] pos) X.env = (do
      let ov ← eval o X.env
      standAt apos.atName
      let (f, first) ← holding [ov] (getMethod ov m pl)
      callWith pos f first (backTo pos (starEach [] X.env)) (backToKw pos (keywordEach [] X.env))) := by rfl) :
    PE X (.Call (.Attribute o m apos) [] [] pos) (tMeth C m sp [] E ta tNil) := by
  obtain ⟨f, fd, h1, h2, h3⟩ := M.ex
  exact pe_meth0 ho M.cls h3 h1 (hr.mono hjk) h2 .nil hx ht
theorem pe_cls (D : ClsOk X.prog X.w X.K X.mg X.base CX x C j ps sp) (hr : Room k X.A) (hx : Passes CX X E) (ha : PA X (e :: es) t) (hjk : j + 1 ≤ k := by decide) (hg : Gl X x := by rfl) (hdb : (x == ("__debug__" : Str)) = false := by decide)
    (he : starEach (e :: es) X.env = (false, eval e X.env) :: starEach es X.env := by rfl) (hpl : (backTo pos (starEach es X.env)).any (·.1) = false := by rfl) : PE X (.Call (.Name x p) (e :: es) [] pos) (tMake C sp [] E t) := by
  obtain ⟨f, fd, h1, h2, h3, h4⟩ := D.ex
  exact pe_make h3 h1 (hr.mono hjk) hg h4 h2 .nil hx ha hdb he hpl
/-- a number that stands at the top -/
theorem pe_const {i : Int} {tk : Tok} (hm : X.mg x = some (.int i tk)) (hg : Gl X x := by rfl) (hd : (x == ("__debug__" : Str)) = false := by decide) : PE X (.Name x pos) (tC (.int i)) := pe_glob hg hm ⟨tk, rfl⟩ hd
theorem pe_bty {T : String} (hm : X.mg x = none) (hv : bootBuiltins x = some (.type T)) (hg : Gl X x := by rfl) (hn : x ≠ "__name__" := by decide) (hd : (x == ("__debug__" : Str)) = false := by decide) : PE X (.Name x pos) (tC (.ty T)) := pe_bltn hg hm hv rfl hn hd
end
def clsV : V → Option Value
  | .ref a => some (.ref a)
  | .ty n => some (.type n)
  | _ => none
theorem clsV_rel {c : V} {cv cu : Value} (h : clsV c = some cv) (r : RelV c cu) : cu = cv := by
  cases c with
  | ref a => cases h; exact r
  | ty n => cases h; exact r
  | _ => cases h
section
variable {X : Cx}
theorem call_isi : CallR X (.builtin "isinstance") (fun xs H Q => ∃ x c t cv b, xs = [x, c] ∧ clsV c = some cv ∧ TyOf X.K H x t ∧ PySem.W.kitOne X.K t cv = some b ∧ Q (.bl b) H) := by
  intro pins s σ H xs us Q I r h
  obtain ⟨x, c, t, cv, b, rfl, rc, ty, e, q⟩ := h
  obtain ⟨u, cu, rfl, ru, rcu⟩ := vals2 r
  obtain rfl := clsV_rel rc rcu
  exact isinst_ok I ru ty e fun tk => ⟨.bl b, H, I.tok tk, rfl, q⟩
theorem call_sum (hc : X.calm = true) : CallR X (.builtin "sum") (fun xs H Q => ∃ (p : Addr) (ns : List Int), xs = [.ref p] ∧ SqL X.K H p (ns.map V.int) ∧ Q (.int ns.sum) H) := by
  intro pins s σ H xs us Q I r h
  obtain ⟨p, ns, rfl, hq, q⟩ := h
  obtain ⟨u, rfl, rx⟩ := vals1 r
  cases rx
  obtain ⟨its, r', pl, hz⟩ := I.list hq
  have hi := intsAre_of r'
  obtain ⟨ys, ey⟩ := hi.allInts.items
  have hn : ys.toList.map (·.1) = ns := by
    rw [← nums_intItems, ← ey]
    exact hi.numsOf
  refine sum_intListG (I.ok.hd hc) (ey ▸ pl.isList) fun h' tk t' hk => ⟨.int ns.sum, H, I.kept hk, ⟨t', ?_⟩, q⟩
  rw [preSum_eq, List.take_of_length_le (by simp), hn]
/-- what == says: flat values, and lists of what it says of (n deep) -/
inductive DEq (K : PySem.W.Frag) (H : Hp) : Nat → V → V → Bool → Prop where
  | flat {n : Nat} {x y : V} (hx : flatV x = true) (hy : flatV y = true) : DEq K H n x y (eqV x y)
  | same {n : Nat} {a : Addr} : DEq K H n (.ref a) (.ref a) true
  | lists {n : Nat} {a b : Addr} {xs ys : List V} (e : Nat → Bool) (ne : a ≠ b) (ha : SqL K H a xs) (hb : SqL K H b ys) (hl : xs.length = ys.length)
      (he : ∀ (i : Nat) x y, xs[i]? = some x → ys[i]? = some y → DEq K H n x y (e i)) : DEq K H (n + 1) (.ref a) (.ref b) ((List.range xs.length).all e)
  | lens {n : Nat} {a b : Addr} {xs ys : List V} (ne : a ≠ b) (ha : SqL K H a xs) (hb : SqL K H b ys) (hl : xs.length ≠ ys.length) : DEq K H n (.ref a) (.ref b) false
theorem DEq.eqAt {pins : List (Addr × Obj)} {σ : St} {H : Hp} {s : Shared} (I : Inv X pins σ H s) {n : Nat} {x y : V} {b : Bool} (d : DEq X.K H n x y b) : ∀ {A : Around} {u v : Value}, RelV x u → RelV y v → A.units + n < cLine → SeqAt.EqAt A s u v b := by
  induction d with
  | flat hx hy => intro A u v ru rv _; exact eqAt_V ru rv hx hy
  | same =>
    intro A u v ru rv _
    cases ru; cases rv
    exact SeqAt.EqAt.same _
  | @lists n a b xs ys e ne ha hb hl he ih =>
    intro A u v ru rv hu
    cases ru; cases rv
    obtain ⟨its, r1, p1, z1⟩ := I.list ha
    obtain ⟨jts, r2, p2, z2⟩ := I.list hb
    have l1 := r1.length
    have l2 := r2.length
    have hsz : its.toArray.size = jts.toArray.size := by simp only [List.size_toArray]; omega
    have := SeqAt.RcAt.lists (A := A) (e := e) p1.isList p2.isList hsz (by omega) fun j h1 h2 => by
      have j1 : j < xs.length := by rw [l1]; simpa using h1
      have j2 : j < ys.length := by rw [l2]; simpa using h2
      obtain ⟨u1, e1, q1⟩ := r1.get (List.getElem?_eq_getElem j1)
      obtain ⟨u2, e2, q2⟩ := r2.get (List.getElem?_eq_getElem j2)
      have g1 : its.toArray[j] = u1 := by have := List.getElem?_eq_some_iff.mp e1; obtain ⟨_, z⟩ := this; simpa using z
      have g2 : jts.toArray[j] = u2 := by have := List.getElem?_eq_some_iff.mp e2; obtain ⟨_, z⟩ := this; simpa using z
      rw [g1, g2]
      exact ih j xs[j] ys[j] (List.getElem?_eq_getElem j1) (List.getElem?_eq_getElem j2) q1 q2 (by show A.units + 1 + n < cLine; omega)
    rw [List.size_toArray, ← l1] at this
    exact SeqAt.EqAt.of_refs ne this
  | @lens n a b xs ys ne ha hb hl =>
    intro A u v ru rv hu
    cases ru; cases rv
    obtain ⟨its, r1, p1, z1⟩ := I.list ha
    obtain ⟨jts, r2, p2, z2⟩ := I.list hb
    have l1 := r1.length
    have l2 := r2.length
    exact SeqAt.EqAt.of_refs ne (SeqAt.RcAt.lists_lengths p1.isList p2.isList (by simp only [List.size_toArray, bne_iff_ne]; omega) (by omega))
/-- xs == ys, xs != ys of two lists -/
def rEqL (K : PySem.W.Frag) (neg : Bool) : R2 := fun x y H Q => ∃ a b xs ys, x = .ref a ∧ y = .ref b ∧ SqL K H a xs ∧ SqL K H b ys ∧
  ((xs.length ≠ ys.length ∧ Q (.bl neg) H) ∨ (xs.length = ys.length ∧ ∃ e : Nat → Bool, (∀ (i : Nat) x y, xs[i]? = some x → ys[i]? = some y → DEq K H 4 x y (e i)) ∧ Q (.bl (if neg then !(List.range xs.length).all e else (List.range xs.length).all e)) H))
theorem eql_items {pins : List (Addr × Obj)} {σ : St} {H : Hp} {s : Shared} (I : Inv X pins σ H s) {A : Around} {xs ys : List V} {its jts : List Value} {e : Nat → Bool} (r1 : Vals xs its) (r2 : Vals ys jts) (hu : A.units + 5 < cLine)
    (he : ∀ (i : Nat) x y, xs[i]? = some x → ys[i]? = some y → DEq X.K H 4 x y (e i)) : ∀ j (h1 : j < its.toArray.size) (h2 : j < jts.toArray.size), SeqAt.EqAt A.in1 s its.toArray[j] jts.toArray[j] (e j) := fun j h1 h2 => by
  have j1 : j < xs.length := by rw [r1.length]; simpa using h1
  have j2 : j < ys.length := by rw [r2.length]; simpa using h2
  obtain ⟨u1, e1, q1⟩ := r1.get (List.getElem?_eq_getElem j1)
  obtain ⟨u2, e2, q2⟩ := r2.get (List.getElem?_eq_getElem j2)
  have g1 : its.toArray[j] = u1 := by have := List.getElem?_eq_some_iff.mp e1; obtain ⟨_, z⟩ := this; simpa using z
  have g2 : jts.toArray[j] = u2 := by have := List.getElem?_eq_some_iff.mp e2; obtain ⟨_, z⟩ := this; simpa using z
  rw [g1, g2]
  exact (he j xs[j] ys[j] (List.getElem?_eq_getElem j1) (List.getElem?_eq_getElem j2)).eqAt I q1 q2 (by show A.units + 1 + 4 < cLine; omega)
theorem op_eqL (hu : X.A.units + 5 < cLine) : OpR X (compareOp .Eq) (rEqL X.K false) := by
  intro pins s σ H x y v u Q I rx ry h
  obtain ⟨a, b, xs, ys, rfl, rfl, ha, hb, h⟩ := h
  cases rx; cases ry
  obtain ⟨its, r1, p1, z1⟩ := I.list ha
  obtain ⟨jts, r2, p2, z2⟩ := I.list hb
  have l1 := r1.length
  have l2 := r2.length
  rcases h with ⟨hl, q⟩ | ⟨hl, e, he, q⟩
  · exact SeqAt.eq_list_lengthsAt p1.isList p2.isList (by simp only [List.size_toArray, bne_iff_ne]; omega) (by omega) ⟨.bl false, H, I, rfl, q⟩
  · refine SeqAt.eq_listAt (e := e) p1.isList p2.isList (by simp only [List.size_toArray]; omega) (by omega) (eql_items I r1 r2 hu he) ⟨.bl _, H, I, rfl, ?_⟩
    rw [List.size_toArray, ← l1]
    exact q
theorem op_neL (hu : X.A.units + 5 < cLine) : OpR X (compareOp .NotEq) (rEqL X.K true) := by
  intro pins s σ H x y v u Q I rx ry h
  obtain ⟨a, b, xs, ys, rfl, rfl, ha, hb, h⟩ := h
  cases rx; cases ry
  obtain ⟨its, r1, p1, z1⟩ := I.list ha
  obtain ⟨jts, r2, p2, z2⟩ := I.list hb
  have l1 := r1.length
  have l2 := r2.length
  rcases h with ⟨hl, q⟩ | ⟨hl, e, he, q⟩
  · exact SeqAt.RcNeAt.lists_lengths p1.isList p2.isList (by simp only [List.size_toArray, bne_iff_ne]; omega) (by omega) X.prog X.w X.xe _ ⟨.bl true, H, I, rfl, q⟩
  · refine SeqAt.RcNeAt.lists (e := e) p1.isList p2.isList (by simp only [List.size_toArray]; omega) (by omega) (eql_items I r1 r2 hu he) X.prog X.w X.xe _ ⟨.bl _, H, I, rfl, ?_⟩
    rw [List.size_toArray, ← l1]
    exact q
end
section
variable {X : Cx} {K : PySem.W.Frag}
theorem ix_listK (h : X.K = K := by rfl) : IxR X (rIxL K) := by subst h; exact ix_list
theorem ix_tupK (h : X.K = K := by rfl) : IxR X (rIxT K) := by subst h; exact ix_tup
theorem op_inK (h : X.K = K := by rfl) : OpR X (compareOp .In) (rIn K false) := by subst h; exact op_in_seq
theorem op_notInK (h : X.K = K := by rfl) : OpR X (compareOp .NotIn) (rIn K true) := by subst h; exact op_notIn_seq
end
end L2
set_option Elab.async false
set_option maxHeartbeats 4000000
namespace L2
open PySem
section
variable {prog : Program} {w : World} {A : Around} {E : Value → Shared → Prop} {s : Shared}
/-- one step of an enumerate over a list, whatever number it counts from -/
theorem en_step {n it l : Addr} {i : Nat} {c : Int} {its : Array Value} {v old : Value} {Q : Value → Shared → Prop}
    (hn : IsEnum s.heap n it c old) (hi : s.heap.IsListIter it l i) (hl : s.heap.IsList l its) (hv : its[i]? = some v) (ne : n ≠ it)
    (k : ∀ g, IsEnumOut g n it (c + 1) v s.heap.objs.size → g.IsListIter it l (i + 1) → g.get? s.heap.objs.size = some { cls := .type "tuple", data := .seq #[.int c s.toks, v] } →
      g.objs.size = s.heap.objs.size + 1 → (∀ b o, b ≠ n → b ≠ it → s.heap.get? b = some o → g.get? b = some o) → Q (.ref s.heap.objs.size) { s with heap := g, toks := s.toks + 1 }) :
    wpAny (model prog w) A (Builtin.«enumerate.__next__» ⟨[.ref n], []⟩) (fun fin s' => ∃ r, fin = .done (.ret r) ∧ Q r s') E s := by
  obtain ⟨hp, gn, dr, tk, os⟩ := s
  show wpAny _ _ (field (.ref n) 2 >>= _) _ _ _
  refine wpAny_bind (wpAny_field hn rfl (x := .ref it) rfl (wpAny_bind (wpAny_nextOf_list_item hi hl hv fun g1 hi1 sb1 => ?_)))
  have sb1' : Heap.SameBut it hp g1 := sb1
  have hn1 : IsEnum g1 n it c old := (sb1'.2 n ne).trans hn
  show wpAny _ _ (field (.ref n) 3 >>= _) _ _ ⟨g1, gn, dr, tk, os⟩
  refine wpAny_bind (wpAny_field hn1 rfl (x := rawInt c) rfl ?_)
  show wpAny _ _ (field (.ref n) 4 >>= _) _ _ ⟨g1, gn, dr, tk, os⟩
  refine wpAny_bind (wpAny_field hn1 rfl (x := .none) rfl ?_)
  show wpAny _ _ (mkInt c >>= _) _ _ ⟨g1, gn, dr, tk, os⟩
  refine wpAny_bind (wpAny_mkInt ?_)
  show wpAny _ _ (setField (.ref n) 3 (rawInt (c + 1)) >>= _) _ _ ⟨g1, gn, dr, tk + 1, os⟩
  refine wpAny_bind (wpAny_setField_rec hn1 (by simp) fun g2 hn2 sb2 => ?_)
  have sb2' : Heap.SameBut n g1 g2 := sb2
  have hn2' : IsEnum g2 n it (c + 1) old := hn2
  show wpAny _ _ (setField (.ref n) 4 .none >>= _) _ _ ⟨g2, gn, dr, tk + 1, os⟩
  refine wpAny_bind (wpAny_setField_rec hn2' (by simp) fun g3 hn3 sb3 => ?_)
  have sb3' : Heap.SameBut n g2 g3 := sb3
  have hn3' : IsEnum g3 n it (c + 1) old := hn3
  show wpAny _ _ (newTuple [.int c tk, v] >>= _) _ _ ⟨g3, gn, dr, tk + 1, os⟩
  refine wpAny_bind (wpAny_newTuple ?_)
  have hn4 : IsEnum (g3.push { cls := .type "tuple", data := .seq #[.int c tk, v] }) n it (c + 1) old := Heap.get?_push_of_some _ hn3'
  have z3 : g3.objs.size = hp.objs.size := by rw [sb3'.1, sb2'.1, sb1'.1]
  have nlt : n < hp.objs.size := Heap.lt_size hn
  generalize q4 : g3.push { cls := .type "tuple", data := .seq #[.int c tk, v] } = g4 at hn4
  have t4 : g4.get? hp.objs.size = some { cls := .type "tuple", data := .seq #[.int c tk, v] } := by rw [← q4, ← z3]; exact Heap.get?_push_size _ rfl
  have z4 : g4.objs.size = hp.objs.size + 1 := by rw [← q4, Heap.size_push, z3]
  have k4 : ∀ b o, b ≠ n → b ≠ it → hp.get? b = some o → g4.get? b = some o := fun b o b1 b2 e => by
    rw [← q4]; exact Heap.get?_push_of_some _ (sb3'.extBut b o b1 (sb2'.extBut b o b1 (sb1'.extBut b o b2 e)))
  have i4 : g4.IsListIter it l (i + 1) := by
    rw [← q4]
    obtain ⟨o, ho, r⟩ := (hi1.extBut sb2'.extBut (Ne.symm ne)).extBut sb3'.extBut (Ne.symm ne)
    exact ⟨o, Heap.get?_push_of_some _ ho, r⟩
  show wpAny _ _ (Builtin.SmallTypes.ownedTupleIsFree (.ref n) >>= _) _ _ ⟨g4, gn, dr, tk + 1, os⟩
  rw [z3]
  clear q4 hn3 hn3' sb3 sb3' hn2 hn2' sb2 sb2' hn1 sb1 sb1' hi1 z3 g3 g2 g1
  unfold Builtin.SmallTypes.ownedTupleIsFree
  refine wpAny_bind (wpAny_bind (wpAny_field hn4 rfl (x := .none) rfl (wpAny_pure ?_)))
  simp only [if_true]
  refine wpAny_bind (wpAny_rule (wpAny_bind (wpAny_field hn4 rfl (x := old) rfl (wpAny_bind (wpAny_setField_rec hn4 (by simp) fun g5 hn5 sb5 => ?_)))))
  have sb5' : Heap.SameBut n g4 g5 := sb5
  have hn5' : IsEnum g5 n it (c + 1) v := hn5
  show wpAny _ _ (Builtin.SmallTypes.ownedTupleHandOut (.ref n) (.ref hp.objs.size) >>= _) _ _ ⟨g5, gn, dr, tk + 1, os⟩
  unfold Builtin.SmallTypes.ownedTupleHandOut
  refine wpAny_bind (wpAny_bind (wpAny_setField_rec hn5' (by simp) fun g6 hn6 sb6 => ?_))
  have sb6' : Heap.SameBut n g5 g6 := sb6
  have hn6' : IsEnumOut g6 n it (c + 1) v hp.objs.size := hn6
  refine wpAny_setField_rec hn6' (by simp) fun g7 hn7 sb7 => ?_
  have sb7' : Heap.SameBut n g6 g7 := sb7
  refine wpAny_bind (wpAny_letGo (wpAny_pure ⟨_, rfl, k g7 hn7 ?_ ?_ ?_ ?_⟩))
  · exact ((i4.extBut sb5'.extBut (Ne.symm ne)).extBut sb6'.extBut (Ne.symm ne)).extBut sb7'.extBut (Ne.symm ne)
  · exact sb7'.extBut _ _ (Nat.ne_of_gt nlt) (sb6'.extBut _ _ (Nat.ne_of_gt nlt) (sb5'.extBut _ _ (Nat.ne_of_gt nlt) t4))
  · rw [sb7'.1, sb6'.1, sb5'.1, z4]
  · exact fun b o b1 b2 e => sb7'.extBut b o b1 (sb6'.extBut b o b1 (sb5'.extBut b o b1 (k4 b o b1 b2 e)))
theorem en_item {n it l : Addr} {i : Nat} {c : Int} {its : Array Value} {v old : Value} {Q : Option Value → Shared → Prop}
    (hn : IsEnum s.heap n it c old) (hi : s.heap.IsListIter it l i) (hl : s.heap.IsList l its) (hv : its[i]? = some v) (ne : n ≠ it)
    (k : ∀ g, IsEnumOut g n it (c + 1) v s.heap.objs.size → g.IsListIter it l (i + 1) → g.get? s.heap.objs.size = some { cls := .type "tuple", data := .seq #[.int c s.toks, v] } →
      g.objs.size = s.heap.objs.size + 1 → (∀ b o, b ≠ n → b ≠ it → s.heap.get? b = some o → g.get? b = some o) → Q (some (.ref s.heap.objs.size)) { s with heap := g, toks := s.toks + 1 }) :
    wpAny (model prog w) A (pyNext (.ref n)) Q E s := by
  have ty : s.TypeIs (.ref n) "enumerate" := ⟨_, hn, rfl⟩
  unfold pyNext
  refine wpAny_bind (wpAny_attempt (wpAny_callSpecial?_slot (name := Str.ofString "__next__") ty F.slot_enumerate_next (wpAny_call_entry F.slot_enumerate_next ty F.entry_enumerate_next ?_ (F.args_enumerate_next_1 _))))
  exact en_step hn hi hl hv ne fun g a b d e f => wpAny_pure (k g a b d e f)
theorem en_end {n it l : Addr} {i : Nat} {c : Int} {its : Array Value} {old : Value} {Q : Option Value → Shared → Prop} (hh : A.handled = none)
    (hn : IsEnum s.heap n it c old) (hi : s.heap.IsListIter it l i) (hl : s.heap.IsList l its) (hv : its[i]? = none) (k : ∀ g, Heap.ExtBut it s.heap g → Q none { s with heap := g }) : wpAny (model prog w) A (pyNext (.ref n)) Q E s := by
  have ty : s.TypeIs (.ref n) "enumerate" := ⟨_, hn, rfl⟩
  unfold pyNext
  refine wpAny_bind (wpAny_attempt (wpAny_callSpecial?_slot (name := Str.ofString "__next__") ty F.slot_enumerate_next (wpAny_call_entry F.slot_enumerate_next ty F.entry_enumerate_next ?_ (F.args_enumerate_next_1 _))))
  show wpAny _ _ (field (.ref n) 2 >>= _) _ _ _
  refine wpAny_bind (wpAny_field hn rfl (x := .ref it) rfl (wpAny_bind (wpAny_nextOf_list_end hh hi hl hv fun g x eb hx => ?_)))
  obtain ⟨o, ho, hc⟩ := hx
  exact wpAny_bind (wpAny_isInstance (T := "StopIteration") (b := true) ⟨o, ho, hc⟩ isSubtype_stop (wpAny_pure (k _ eb)))
/-- enumerate(xs, start=c) -/
theorem en_new (l : Addr) (its : Array Value) (k : Nat) (c : Int) (t : Tok) (hc : -(2 ^ 62) ≤ c ∧ c < 2 ^ 62) :
    Meets (Builtin.«enumerate.__new__» ⟨[.type "enumerate", .ref l], [("start", .int c t)]⟩) (fun _ R s => s.heap.get? l = some { cls := .type "list", dict := none, data := .seq its k, slots := #[] } ∧
      R (.ok (.ret (.ref (s.heap.push { cls := .type "list_iterator", data := .fields #[.ref l, .int 0 0] }).objs.size)))
        { s with heap := (s.heap.push { cls := .type "list_iterator", data := .fields #[.ref l, .int 0 0] }).push { cls := .type "enumerate", data := .fields #[.none, .bool false, .ref s.heap.objs.size, rawInt c, .none, .none] } }) :=
  .of_wp fun prog w A R s h => by
    obtain ⟨hp, g, d, tk, os⟩ := s; obtain ⟨hl, h⟩ := h
    have f1 := sub_enumerate
    have hL : Heap.IsList (Shared.heap ⟨hp, g, d, tk, os⟩) l its := ⟨_, hl, rfl, k, rfl⟩
    wp_walk using AutoSeq1.wpAny_loadPart' hl
    have ff : Builtin.SmallTypes.fitsIndex c = true := by
      unfold Builtin.SmallTypes.fitsIndex; simp; omega
    refine wpAny_stack_any fun st => wpAny_pure ?_
    split
    · rename_i cc _ _ _ _ _
      cases (cc == Value.type "enumerate")
      · wp_walk using AutoSeq1.wpAny_loadPart' hl, wpAny_pyIter_list hL
        exact ⟨_, rfl, h⟩
      · wp_walk using AutoSeq1.wpAny_loadPart' hl, wpAny_pyIter_list hL
        exact ⟨_, rfl, h⟩
    · wp_walk using AutoSeq1.wpAny_loadPart' hl, wpAny_pyIter_list hL
      exact ⟨_, rfl, h⟩
end
end L2
set_option Elab.async false
set_option maxHeartbeats 4000000
set_option maxRecDepth 100000
namespace L2
open PySem
section
variable {prog : Program} {w : World} {A : Around} {E : Value → Shared → Prop} {s : Shared}
theorem start_check (l : Addr) (c : Int) (t : Tok) : checkTypeCall "enumerate" ⟨[.ref l], [("start", .int c t)]⟩ = pure () := by kernel_rfl
theorem start_new (l : Addr) (c : Int) (t : Tok) : checkBuiltinCall "enumerate.__new__" ⟨[.type "enumerate", .ref l], [("start", .int c t)]⟩ = pure () := by kernel_rfl
theorem start_init (o : Value) (l : Addr) (c : Int) (t : Tok) : argsOk "object.__init__" ⟨[o, .ref l], [("start", .int c t)]⟩ := by kernel_rfl
theorem callType_named {T newId initId : String} {Bn Bi : Builtin} {args : List Value} {kw : List (Str × Value)} {S : Spec} {Q R : Value → Shared → Prop} (ft : TypeCalled T newId initId)
    (h1 : checkTypeCall T ⟨args, kw⟩ = pure ()) (h2 : checkBuiltinCall newId ⟨.type T :: args, kw⟩ = pure ())
    (eN : entryFor table newId = some Bn) (eI : entryFor table initId = some Bi) (g : Meets (Bn ⟨.type T :: args, kw⟩) S) (h : S A.in1 (wants R E) s)
    (k : ∀ o s', R o s' → s'.TypeIs o T ∧ argsOk initId ⟨o :: args, kw⟩ ∧ ∃ Si, Meets (Bi ⟨o :: args, kw⟩) Si ∧ Si A.in1 (wants (fun r s'' => r = .none ∧ Q o s'') E) s') :
    wpAny (model prog w) A (call (.type T) args kw) Q E s := by
  obtain ⟨c, tl, hmro⟩ := ft.mro
  have hmade := ft.made
  have hsub := ft.sub
  refine wpAny_call (codeAny_of_tree ?_)
  show wpAny _ _ (callAny (.type T) _) _ _ _
  refine wpAny_pure ⟨Code.quiet_builtin _ (by decide +kernel), codeAny_builtin F.entry_type_call ?_⟩
  rw [Around.under_plain (weight_type_call_type T args kw) (units_type_call_type T args kw)]
  have n1 := ft.notType
  have n2 := ft.canCreate
  repeat (any_goals (first | assumption | wp_step))
  refine codeAny_mono (codeAny_call_builtin ft.plain eN (wpAny_of_eq h2 (g prog w A.in1 _ s h))) fun r s1 hr => ?_
  cases r with
  | error e => exact hr
  | ok fl =>
    cases fl with
    | ret o =>
      obtain ⟨hT, hok, Si, gi, hsi⟩ := k _ _ hr
      have hli := ft.init.lookup
      have hbi := ft.init.bind o
      repeat (any_goals (first | assumption | wp_step))
      refine codeAny_mono (codeAny_call_builtin ft.init.plain eI (ft.init.check _ _ _ _ _ _ _ _ hT hok (gi prog w A.in1 _ s1 hsi))) fun r2 s2 hr2 => ?_
      cases r2 with
      | error e => exact hr2
      | ok fl2 =>
        cases fl2 with
        | ret r =>
          obtain ⟨rfl, hq⟩ := hr2
          repeat (any_goals (first | assumption | wp_step))
        | _ => exact hr2.elim
    | _ => exact hr.elim
theorem init_named {T newId : String} {o : Value} {rest : List Value} {kw : List (Str × Value)} (hl : typeLookup (.type T) "__init__" = pure (some (.builtin "object.__init__")))
    (hm : Bind.madeBy (.type T) = pure (some newId)) (hne : (some newId != some "object.__new__") = true) :
    Meets (Builtin.«object.__init__» ⟨o :: rest, kw⟩) (fun _ R s => s.TypeIs o T ∧ R (.ok (.ret .none)) s) := by
  refine Meets.of_wp fun prog w A R s hs => ?_
  obtain ⟨hT, hq⟩ := hs
  cases rest with
  | nil =>
    cases kw with
    | nil => exact wpAny_pure ⟨_, rfl, hq⟩
    | cons p r =>
      repeat (any_goals (first | assumption | wp_step))
      exact ⟨_, rfl, hq⟩
  | cons a rest =>
    repeat (any_goals (first | assumption | wp_step))
    exact ⟨_, rfl, hq⟩
theorem call_en_start {l : Addr} {its : Array Value} {k : Nat} {c : Int} {t : Tok} {Q : Value → Shared → Prop} (hc : -(2 ^ 62) ≤ c ∧ c < 2 ^ 62) (hL : s.heap.get? l = some { cls := .type "list", dict := none, data := .seq its k, slots := #[] })
    (h : ∀ g, IsEnum g (s.heap.objs.size + 1) s.heap.objs.size c .none → g.IsListIter s.heap.objs.size l 0 → g.objs.size = s.heap.objs.size + 2 →
      (∀ b o, s.heap.get? b = some o → g.get? b = some o) → Q (.ref (s.heap.objs.size + 1)) { s with heap := g }) :
    wpAny (model prog w) A (call (.type "enumerate") [.ref l] [("start", .int c t)]) Q E s := by
  have hz : (s.heap.push { cls := .type "list_iterator", data := .fields #[.ref l, .int 0 0] }).objs.size = s.heap.objs.size + 1 := Heap.size_push ..
  refine callType_named (R := fun o s' => s'.TypeIs o "enumerate" ∧ Q o s') F.called_enumerate (start_check l c t) (start_new l c t) F.entry_enumerate_new F.entry_object_init (en_new l its k c t hc) ⟨hL, ?_⟩
    fun o s' hq => ⟨hq.1, start_init o l c t, _, init_named F.called_enumerate.init.lookup F.called_enumerate.made (by decide), hq.1, rfl, hq.2⟩
  show _ ∧ _
  rw [hz]
  have q : IsEnum ((s.heap.push { cls := .type "list_iterator", data := .fields #[.ref l, .int 0 0] }).push
      { cls := .type "enumerate", data := .fields #[.none, .bool false, .ref s.heap.objs.size, rawInt c, .none, .none] }) (s.heap.objs.size + 1) s.heap.objs.size c .none := by
    have := Heap.get?_push_size (s.heap.push { cls := .type "list_iterator", data := .fields #[.ref l, .int 0 0] })
      (o := { cls := .type "enumerate", data := .fields #[.none, .bool false, .ref s.heap.objs.size, rawInt c, .none, .none] }) rfl
    rw [hz] at this; exact this
  exact ⟨⟨_, q, rfl⟩, h _ q ⟨_, Heap.get?_push_of_some _ (Heap.get?_push_size _ rfl), rfl, rfl⟩ (by rw [Heap.size_push, hz]) fun b o x => Heap.get?_push_of_some _ (Heap.get?_push_of_some _ x)⟩
end
end L2
set_option Elab.async false
set_option maxHeartbeats 4000000
namespace L2
open PySem PySem.Spec PyProof.Rows
def Ite (K : PySem.W.Frag) (a : Addr) (c : Int) : It :=
  ⟨fun i H => ∃ xs x, SqL K H a xs ∧ xs[i]? = some x, fun i H x H' => ∃ p v, H p = none ∧ x = .ref p ∧ H' = upd H p (.tup [.int (c + i), v]) ∧ ∀ xs, SqL K H a xs → xs[i]? = some v, fun i H => ∃ xs, SqL K H a xs ∧ xs.length ≤ i⟩
theorem go_enum {prog : Program} {w : World} {A : Around} {E : Value → Shared → Prop} {s : Shared} {es : List Expr} {k : Nat} {pos : Pos} {n it t : Addr} {c : Int} {v : Value} {Q : Unit → Shared → Prop} (hn : IsEnumOut s.heap n it c v t)
    (hQ : ∀ g, IsEnum g n it c v → Heap.SameBut n s.heap g → Q () { s with heap := g }) : wpAny (model prog w) A (letOwnedTupleGo (.Tuple es k pos) (.ref n) (.ref t)) Q E s := by
  unfold letOwnedTupleGo
  refine wpAny_bind (wpAny_load hn ?_)
  simp only [List.contains_cons, beq_self_eq_true, Bool.true_or, Bool.true_and]
  rw [if_pos (by simp)]
  refine wpAny_bind (wpAny_rule ?_)
  show wpAny _ _ (setField (.ref n) 0 .none) _ _ _
  exact wpAny_setField_rec hn (by simp) fun g e sb => hQ g e sb
theorem turn_enum {P : Program} {w : World} {K : PySem.W.Frag} {es : List Expr} {kk : Nat} {tp : Pos} (a n it : Addr) (c : Int) (ne : n ≠ it) :
    Turn P w K (.Tuple es kk tp) (Ite K a c) [n, it] n (fun i h => (∃ old, IsEnum h n it (c + (i : Nat)) old) ∧ h.IsListIter it a i) where
  mem := by simp
  obj := fun i h st b hb => by
    obtain ⟨⟨old, hn⟩, o, ho, hc, hd⟩ := st
    rcases List.mem_cons.mp hb with rfl | hb
    · exact ⟨_, hn, fun v z => nomatch z⟩
    · have e : b = it := by simpa using hb
      subst e
      exact ⟨o, ho, fun v z => by rw [hd] at z; cases z⟩
  keep := fun i h h' st k => by
    obtain ⟨⟨old, hn⟩, hi⟩ := st
    exact ⟨⟨old, k n (by simp) _ hn⟩, hi.at fun o e => k it (by simp) o e⟩
  item := by
    intro X hP hw hK hc i pins s σ H E I hf st hg
    subst hP hw hK
    obtain ⟨xs, x, hq, hx⟩ := hg
    obtain ⟨its, rv, p, hz⟩ := I.list hq
    obtain ⟨u, hu, ru⟩ := rv.get hx
    obtain ⟨⟨old, hn⟩, hi⟩ := st
    obtain ⟨f0, f1, f2, f3, f4, f5⟩ := hf n (by simp)
    obtain ⟨g0, g1, g2, g3, g4, g5⟩ := hf it (by simp)
    refine en_item hn hi p.isList (v := u) (by simpa using hu) ne fun q o1 o2 o3 o4 o5 => ?_
    refine ⟨_, rfl, go_enum (s := { s with heap := q, toks := s.toks + 1 }) o1 fun z e2 sb2 => ?_⟩
    have sb2' : Heap.SameBut n q z := sb2
    have kept : ∀ b o, b ∉ [n, it] → s.heap.get? b = some o → z.get? b = some o := fun b o hb e => by
      simp only [List.mem_cons, List.not_mem_nil, or_false, not_or] at hb
      exact (sb2'.2 b hb.1).trans (o5 b o hb.1 hb.2 e)
    have fresh : H s.heap.objs.size = none := I.hok.fresh (Nat.le_refl _)
    have tup : z.get? s.heap.objs.size = some { cls := .type "tuple", data := .seq #[.int (c + (i : Nat)) s.toks, u] } := (sb2'.2 _ (Nat.ne_of_gt (Heap.lt_size hn))).trans o3
    have off : ∀ b v, H b = some v → b ∉ [n, it] := fun b v e hb => by
      simp only [List.mem_cons, List.not_mem_nil, or_false] at hb
      rcases hb with rfl | rfl
      · rw [f0] at e; cases e
      · rw [g0] at e; cases e
    have I1 : Inv X pins σ (upd H s.heap.objs.size (.tup [.int (c + (i : Nat)), x])) { s with heap := z, toks := s.toks + 1 } := by
      refine I.step (g' := s.gens) (d' := s.drawn) (ch := [n, it]) (fun b hb => ?_) (fun b o _ _ hb e _ => kept b o hb e) (fun b o _ _ hb e _ => ⟨o.slots, kept b o hb e⟩) (fun b o hb e q => ?_) (fun b o hb e => ⟨o, kept b o hb e⟩)
        (fun b ys e => by rw [upd_ne (ne_of_none e fresh)]; exact e) (fun b o v e => by rw [upd_ne (ne_of_none e fresh)]; exact e) (fun b ps e => ⟨#[], by rw [upd_ne (ne_of_none e fresh), e]; simp⟩) (fun m hm => ?_) (fun b v e => ?_) I.bare
      · simp only [List.mem_cons, List.not_mem_nil, or_false] at hb
        rcases hb with rfl | rfl
        · exact ⟨f3, f1, f4, f5⟩
        · exact ⟨g3, g1, g4, g5⟩
      · rw [upd_ne (Nat.ne_of_lt (Heap.lt_size e))]; exact q
      · obtain ⟨o, es', ep, ho, r⟩ := hm
        refine ⟨o, es', ep, kept _ o (fun hb => ?_) ho, r⟩
        simp only [List.mem_cons, List.not_mem_nil, or_false] at hb
        rcases hb with q | q
        · exact f1 q.symm
        · exact g1 q.symm
      · by_cases hb : b = s.heap.objs.size
        · subst hb
          rw [upd_same] at e; cases e
          refine ⟨by show 2 ≤ sizeLine; decide, [.int (c + (i : Nat)) s.toks, u], .cons ⟨_, rfl⟩ (.cons ru .nil), ⟨_, tup, rfl, _, rfl⟩⟩
        · rw [upd_ne hb] at e
          refine (I.hok b v e).stay (fun d v' hd q => kept d v' ?_ q) (fun d q => by rw [upd_ne (ne_of_none q fresh)]; exact q) fun d ys q => by rw [upd_ne (ne_of_none q fresh)]; exact q
          rcases hd with rfl | hd
          · exact off _ _ e
          · exact off _ _ hd
    refine ⟨.ref s.heap.objs.size, _, I1, rfl, ⟨_, x, fresh, rfl, rfl, fun ys hy => by rw [I.list_inj hy hq]; exact hx⟩, ⟨⟨u, ?_⟩, o2.extBut sb2'.extBut (Ne.symm ne)⟩, fun b hb => ?_⟩
    · have e : c + ((i + 1 : Nat) : Int) = c + (i : Nat) + 1 := by omega
      rw [e]; exact e2
    · have hb' := hb
      simp only [List.mem_cons, List.not_mem_nil, or_false] at hb
      have lt : b < s.heap.objs.size := by
        rcases hb with rfl | rfl
        · exact Heap.lt_size hn
        · obtain ⟨o, ho, _⟩ := hi; exact Heap.lt_size ho
      rw [upd_ne (Nat.ne_of_lt lt)]
      exact (hf b hb').1
  done := by
    intro X hP hw hK hc i pins s σ H E I hf st hg
    subst hP hw hK
    obtain ⟨xs, hq, hx⟩ := hg
    obtain ⟨its, rv, p, hz⟩ := I.list hq
    obtain ⟨⟨old, hn⟩, hi⟩ := st
    obtain ⟨g0, g1, g2, g3, g4, g5⟩ := hf it (by simp)
    have hl := rv.length
    exact en_end (I.ok.hd hc) hn hi p.isList (by simp; omega) fun g eb => ⟨rfl, I.turned (t' := s.toks) (fun b o hb e => eb b o hb e) g0 g1 g3 g4 g5⟩
  self := fun A i s Q E st h => by
    obtain ⟨⟨old, hn⟩, _⟩ := st
    exact wpAny_pyIter_enum hn h
/-- the list that is counted -/
def iEnum (K : PySem.W.Frag) (c : Int) (ta : TA) : TI := fun σ H R => ta σ H fun vs H1 => ∃ a xs, vs = [.ref a] ∧ H1 a = some (.lst xs) ∧ R (Ite K a c) H1
section
variable {X : Cx} {es : List Expr} {kk : Nat} {tp : Pos}
theorem enum_it {pins : List (Addr × Obj)} {σ : St} {H : Hp} {s : Shared} {R : It → Hp → Prop} {E : Value → Shared → Prop} {a : Addr} {c : Int} {g : Heap} (I : Inv X pins σ H s) (q : R (Ite X.K a c) H)
    (o1 : IsEnum g (s.heap.objs.size + 1) s.heap.objs.size c .none) (o2 : g.IsListIter s.heap.objs.size a 0) (k : ∀ b o, s.heap.get? b = some o → g.get? b = some o) :
    wpAny (model X.prog X.w) X.A (pyIter (.ref (s.heap.objs.size + 1))) (PIE X pins σ (.Tuple es kk tp) R) E { s with heap := g } := by
  refine wpAny_pyIter_enum o1 ?_
  refine ⟨s.heap.objs.size + 1, [s.heap.objs.size + 1, s.heap.objs.size], _, _, H, rfl, I.kept (t' := s.toks) k, turn_enum a _ _ c (Nat.succ_ne_self _), ⟨⟨.none, ?_⟩, o2⟩, fun b hb => ?_, q⟩
  · have e : c + ((0 : Nat) : Int) = c := by omega
    rw [e]; exact o1
  · simp only [List.mem_cons, List.not_mem_nil, or_false] at hb
    rcases hb with rfl | rfl
    · exact I.fpOk (Nat.le_succ _) (I.hok.fresh (Nat.le_succ _))
    · exact I.fpOk (Nat.le_refl _) (I.hok.fresh (Nat.le_refl _))
theorem pi_enumS {a : Expr} {ta : TA} {p pos kp cp : Pos} {c : Int} {j : Nat} (hm : X.mg "enumerate" = none) (ha : PA X [a] ta) (hc : -(2 ^ 62) ≤ c ∧ c < 2 ^ 62 := by decide) (hg : Gl X "enumerate" := by rfl)
    (he : starEach [a] X.env = (false, eval a X.env) :: starEach [] X.env := by rfl) (hpl : ((backTo pos (starEach [a] X.env)).any (·.1) || (backToKw pos (keywordEach [⟨some "start", .Constant (.int c) j cp, kp⟩] X.env)).any (·.1.isNone)) = false := by rfl) :
    PI X (.Tuple es kk tp) (.Call (.Name "enumerate" p) [a] [⟨some "start", .Constant (.int c) j cp, kp⟩] pos) (iEnum X.K c ta) := by
  intro pins s σ H R I h
  refine wpAny_Call_Name_kw (ld_blt I hg hm boot_enumerate ?_)
  refine PySem.W.callWith_of (P := fun _ => True) hpl (fun h _ => ⟨.machine, .inr (.inl rfl), PySem.W.Looks.of_pure rfl⟩) (evalArgs_kw2 rfl (thn (ha pos pins s σ H _ I h) fun us s1 ⟨vs, H1, I1, r, q⟩ => ?_) he)
  have hk : PK X [⟨some "start", .Constant (.int c) j cp, kp⟩] (tCons (tC (.int c)) tNil) := pk_cons pe_int pk_nil
  obtain ⟨l, xs, rfl, hl, q⟩ := q
  obtain ⟨u, rfl, ru⟩ := vals1 r
  cases ru
  refine thn (hk pos pins s1 σ H1 (fun vs H' => vs = [.int c] ∧ H' = H1) I1 ⟨rfl, rfl⟩) fun ws s2 ⟨zs, H2, I2, rz, ez, eh⟩ => ⟨trivial, ?_⟩
  subst ez; subst eh
  obtain ⟨w1, rfl, t, rfl⟩ := vals1 rz
  obtain ⟨z, its, n, r', hn, e⟩ := I2.lstM hl
  show wpAny _ _ (call (.type "enumerate") [.ref l] [("start", .int c t)]) _ _ _
  exact call_en_start hc e fun g o1 o2 o3 o4 => enum_it I2 q o1 o2 o4
end
theorem for_enum {K : PySem.W.Frag} {a : Addr} {xs : List V} {c : Int} {g : TG} {tb : TS} {D : Ends} {σ : St} {H : Hp} (Pv : Nat → St → Hp → Prop) (h0 : Pv 0 σ H) (hl : ∀ i σ H, i ≤ xs.length → Pv i σ H → SqL K H a xs)
    (hs : ∀ i x σ H p, xs[i]? = some x → Pv i σ H → H p = none → g (.ref p) σ (upd H p (.tup [.int (c + (i : Nat)), x])) fun σ2 H2 => tb { D with nx := Pv (i + 1), ct := Pv (i + 1), bk := D.nx } σ2 H2) (hd : ∀ σ H, Pv xs.length σ H → D.nx σ H) :
    ∃ W : Nat → Nat → St → Hp → Prop, (∃ m, W 0 m σ H) ∧ ∀ i m σ H, W i m σ H →
      ((Ite K a c).stop i H ∧ D.nx σ H) ∨ ((Ite K a c).go i H ∧ ∃ N : St → Hp → Prop, (∀ σ' H', N σ' H' → ∃ m', m' < m ∧ W (i + 1) m' σ' H') ∧ ∀ x H', (Ite K a c).yld i H x H' → g x σ H' fun σ2 H2 => tb { D with nx := N, ct := N, bk := D.nx } σ2 H2) := by
  refine ⟨fun i m σ H => m = xs.length - i ∧ i ≤ xs.length ∧ Pv i σ H, ⟨xs.length, by simp, Nat.zero_le _, h0⟩, ?_⟩
  rintro i m σ H ⟨rfl, hi, p⟩
  have q := hl i σ H hi p
  by_cases hlt : i < xs.length
  · refine .inr ⟨⟨xs, xs[i], q, by simp [hlt]⟩, Pv (i + 1), fun σ' H' p' => ⟨xs.length - (i + 1), by omega, rfl, hlt, p'⟩, fun x H' y => ?_⟩
    obtain ⟨pp, v, e1, e2, e3, y⟩ := y
    subst e2 e3
    exact hs i v σ H pp (y xs q) p e1
  · have e : i = xs.length := by omega
    subst e
    exact .inl ⟨⟨xs, q, Nat.le_refl _⟩, hd σ H p⟩
end L2
set_option Elab.async false
set_option maxHeartbeats 4000000
namespace L2
open PySem PySem.Spec PyProof.Rows
theorem ObjOk.there {P : Program} {w : World} {H : Hp} {h : Heap} {a : Addr} {o : HO} (x : ObjOk P w H h a o) : ∃ ob, h.get? a = some ob := by
  cases o with
  | lst xs => obtain ⟨_, _, _, _, e⟩ := x; exact ⟨_, e⟩
  | tup xs => obtain ⟨_, _, _, ⟨ob, e, _⟩⟩ := x; exact ⟨_, e⟩
  | dK kvs => obtain ⟨_, _, _, _, ob, _, _, e, _⟩ := x; exact ⟨_, e⟩
  | dT kvs => obtain ⟨_, _, _, _, ob, _, _, e, _⟩ := x; exact ⟨_, e⟩
  | set S n => obtain ⟨ob, _, _, _, e, _⟩ := x; exact ⟨_, e⟩
  | ins C dx fs => obtain ⟨_, _, _, e, _⟩ := x; exact ⟨_, e⟩
  | own y => obtain ⟨ob, e⟩ := x; exact ⟨_, e⟩
  | xd fs => obtain ⟨_, ⟨ob, _, _, e, _⟩, _⟩ := x; exact ⟨_, e⟩
  | rng lo hi => obtain ⟨_, _, _, e⟩ := x; exact ⟨_, e⟩
  | frz ob u => obtain ⟨e, _⟩ := x; exact ⟨_, e⟩
  | tbl ps => exact ⟨_, (show h.get? a = some _ from x)⟩
  | met f y => exact ⟨_, (show h.get? a = some _ from x)⟩
  | ext φ => obtain ⟨_, ⟨ob, e⟩, _⟩ := x; exact ⟨_, e⟩
/-- an exception has flown out of a call: the callers' frames, the abstract heap and the state ahead of the call, what is wanted of it -/
structure Flew (P : Program) (w : World) (outer : List Env) (H : Hp) (s : Shared) (E : XK) (ea : Addr) (s' : Shared) (cls a0 : Value) (B : Heap) (H' : Hp) : Prop where
  os : s'.os = s.os
  bare : AllBare s'.gens
  un : Un (frs outer) [] H H' s.heap s'.heap
  hok : HOk P w H' s'.heap
  fly : Heap.FlyingW B outer ea cls a0 s'.heap
  new : s.heap.get? ea = none
  kt : ∀ b, H' b ≠ none → ∃ o, B.get? b = some o
  ku : ∀ b o, s.heap.get? b = some o → H b = none → b ∉ frs outer → B.get? b = some o
  ke : ∀ b o, s.heap.get? b = some o → b ∉ frs outer → ∃ o', B.get? b = some o'
  wish : E cls none H'
def CX1 (P : Program) (w : World) : CXT := fun outer H s E e s' => ∃ ea cls a0 B H', e = .ref ea ∧ Flew P w outer H s E ea s' cls a0 B H'
theorem pass1 {X : Cx} : Passes (CX1 X.prog X.w) X E0 := fun _ _ _ _ _ _ _ h => by
  obtain ⟨_, _, _, _, _, _, F⟩ := h
  exact F.wish.elim
section
variable {P : Program} {w : World} {K : PySem.W.Frag} {mg : Str → Option Value} {base : Heap} {N : List Str} {qual : Str} {scope : Scope} {f : Addr} {cd : Value} {A : Around} {outer : List Env} {s : Shared} {H : Hp} {E : XK}
theorem frs_cons (env : Env) (l : List Env) (L : Addr) (h : env.frame = some L) : frs (env :: l) = L :: frs l := by
  unfold frs; rw [List.filterMap_cons, h]
/-- a callee's exception leaves this def too -/
theorem passX : Passes (CX1 P w) (cxOf (CX1 P w) P w K mg base N qual scope f cd A outer s H E) E := by
  intro pins σ H1 s1 e s2 I h
  obtain ⟨ea, cls, a0, B, H2, rfl, F⟩ := h
  have hst : frs (cxOf (CX1 P w) P w K mg base N qual scope f cd A outer s H E).stack = s.heap.objs.size :: frs outer := frs_cons _ _ _ rfl
  have hfl : Heap.FlyingW B (envOfC qual scope s.heap.objs.size f cd :: outer) ea cls a0 s2.heap := F.fly
  have off : ∀ b o, s.heap.get? b = some o → b ∉ frs outer → b ∉ frs (cxOf (CX1 P w) P w K mg base N qual scope f cd A outer s H E).stack := fun b o e n z => by
    rw [hst] at z
    rcases List.mem_cons.mp z with q | q
    · rw [q] at e; exact absurd (Heap.lt_size e) (Nat.lt_irrefl _)
    · exact n q
  have noex : ∀ b : Addr, b ∉ (cxOf (CX1 P w) P w K mg base N qual scope f cd A outer s H E).ex := fun b z => nomatch z
  have nf : ∀ b o, s.heap.get? b = some o → b ∈ frs outer → ∀ vs, o.data ≠ .fields vs := fun b o e hb vs => by
    obtain ⟨_, o', ho, hd⟩ := I.ok.funs.mem hb
    have ho' : s.heap.get? b = some o' := ho
    rw [e] at ho'; cases ho'
    exact hd vs
  show wpAny (model P w) (A.deeper (envOfC qual scope s.heap.objs.size f cd)) (leaving (envOfC qual scope s.heap.objs.size f cd) (.ref ea)) _ _ s2
  refine wpAny_leaves_onW I.ok.frames rfl hfl fun h3 fly3 up3 => ?_
  have old : ∀ b o, s.heap.get? b = some o → H b = none → b ∉ frs outer → B.get? b = some o := fun b o e n hb => F.ku b o (I.base.keep b o e n hb (noex b)) (I.base.free b o e n (noex b)) (off b o e hb)
  have olde : ∀ b o, s.heap.get? b = some o → b ∉ frs outer → ∃ o', B.get? b = some o' := fun b o e hb => by
    obtain ⟨o1, e1⟩ := I.base.there b o e (noex b)
    exact F.ke b o1 e1 (off b o e hb)
  have sl : ∀ b o, s.heap.get? b = some o → H b = none → b ∈ frs outer → ∃ sl, h3.get? b = some { o with slots := sl } := fun b o e n hb => by
    obtain ⟨s1', e1⟩ := I.base.slot b o e n hb (noex b)
    obtain ⟨s2', e2⟩ := F.un.any e1 (I.base.free b o e n (noex b)) (by simp)
    obtain ⟨s3', e3⟩ := up3 b _ e2 (nf b o e hb)
    exact ⟨s3', e3⟩
  refine ⟨ea, cls, a0, B, H2, rfl, ⟨F.os.trans I.os, F.bare, ⟨fun b o e n hb _ => fly3.1 b o (old b o e n hb), fun b o e n hb _ => sl b o e n hb, fun b o e n _ => ?_, fun b o e _ => ?_, fun b xs e => F.un.tups b xs (I.base.tups b xs e), fun b o u e => F.un.frzs b o u (I.base.frzs b o u e), fun b ps e => ?_⟩,
    fun b u e => ?_, fly3, ?_, F.kt, old, olde, F.wish⟩⟩
  · obtain ⟨o1, e1⟩ := I.base.there b o e (noex b)
    exact F.un.free b o1 e1 (I.base.free b o e n (noex b)) (by simp)
  · by_cases hb : b ∈ frs outer
    · obtain ⟨_, _, _, _⟩ := I.ok.funs.mem hb
      have n : H b = none := I.ok.frf b hb
      obtain ⟨sl', e'⟩ := sl b o e n hb
      exact ⟨_, e'⟩
    · obtain ⟨o', e'⟩ := olde b o e hb
      exact ⟨o', fly3.1 b o' e'⟩
  · obtain ⟨m1, e1⟩ := I.base.tbls b ps e
    obtain ⟨m2, e2⟩ := F.un.tbls b _ e1
    exact ⟨m1 ++ m2, by rw [e2, Array.append_assoc]⟩
  · refine (F.hok b u e).stay (fun c v hc q => ?_) (fun _ q => q) fun _ _ q => q
    have hn : H2 c ≠ none := by
      rcases hc with rfl | hc
      · rw [e]; simp
      · rw [hc]; simp
    obtain ⟨o, eo⟩ := F.kt c hn
    have := F.fly.1 c o eo
    rw [q] at this; cases this
    exact fly3.1 c v eo
  · cases q : s.heap.get? ea with
    | none => rfl
    | some o =>
      obtain ⟨o1, e1⟩ := I.base.there ea o q (noex ea)
      rw [F.new] at e1; cases e1
/-- an exception made in this def leaves it -/
theorem madeX {pins : List (Addr × Obj)} {σ : St} {H1 : Hp} {s1 : Shared} {h2 : Heap} {e C : Addr} {vs : List Value} (I : Inv (cxOf (CX1 P w) P w K mg base N qual scope f cd A outer s H E) pins σ H1 s1) (hx : Heap.MadeExcOf s1.heap h2 e (.ref C) vs) (hE : E (.ref C) none H1) :
    (cxOf (CX1 P w) P w K mg base N qual scope f cd A outer s H E).xe (.ref e) { s1 with heap := h2 } := by
  have hst : frs (cxOf (CX1 P w) P w K mg base N qual scope f cd A outer s H E).stack = s.heap.objs.size :: frs outer := frs_cons _ _ _ rfl
  have hfr : frs (envOfC qual scope s.heap.objs.size f cd :: outer) = s.heap.objs.size :: frs outer := frs_cons _ _ _ rfl
  have noex : ∀ b : Addr, b ∉ (cxOf (CX1 P w) P w K mg base N qual scope f cd A outer s H E).ex := fun b z => nomatch z
  have hs : s1.heap.FunFrames (PySem.W.hideAll s1.heap (frs (envOfC qual scope s.heap.objs.size f cd :: outer))) (envOfC qual scope s.heap.objs.size f cd :: outer) :=
    PySem.W.funFrames_hide (show s1.heap.FunFrames base (envOfC qual scope s.heap.objs.size f cd :: outer) from I.stack) fun env he a ha => List.mem_filterMap.mpr ⟨env, he, ha⟩
  show wpAny (model P w) (A.deeper (envOfC qual scope s.heap.objs.size f cd)) (leaving (envOfC qual scope s.heap.objs.size f cd) (.ref e)) _ _ { s1 with heap := h2 }
  refine wpAny_leaves_madeW (s := { s1 with heap := h2 }) I.ok.frames rfl (fun b o q => PySem.W.of_hideAll _ q) hs hx fun h3 t fly3 _ _ up3 => ?_
  have up3' : h2.UpToSlots h3 := up3
  have inB : ∀ b o, s1.heap.get? b = some o → b ∉ s.heap.objs.size :: frs outer → (PySem.W.hideAll s1.heap (frs (envOfC qual scope s.heap.objs.size f cd :: outer))).get? b = some o := fun b o q n => PySem.W.hideAll_get _ q (by rw [hfr]; exact n)
  have ne0 : ∀ b o, s.heap.get? b = some o → b ∉ frs outer → b ∉ s.heap.objs.size :: frs outer := fun b o q n z => by
    rcases List.mem_cons.mp z with y | y
    · rw [y] at q; exact absurd (Heap.lt_size q) (Nat.lt_irrefl _)
    · exact n y
  have trk : ∀ b u, H1 b = some u → b ∉ s.heap.objs.size :: frs outer := fun b u q z => by
    have := I.stkFree b (by rw [hst]; exact z)
    rw [q] at this; cases this
  have nf : ∀ b o, s.heap.get? b = some o → b ∈ frs outer → ∀ vs, o.data ≠ .fields vs := fun b o q hb vs => by
    obtain ⟨_, o', ho, hd⟩ := I.ok.funs.mem hb
    have ho' : s.heap.get? b = some o' := ho
    rw [q] at ho'; cases ho'
    exact hd vs
  have sl : ∀ b o, s.heap.get? b = some o → H b = none → b ∈ frs outer → ∃ sl, h3.get? b = some { o with slots := sl } := fun b o q n hb => by
    obtain ⟨s1', e1⟩ := I.base.slot b o q n hb (noex b)
    obtain ⟨s3', e3⟩ := up3' b _ (hx.keeps _ _ e1) (nf b o q hb)
    exact ⟨s3', e3⟩
  refine ⟨e, .ref C, .ref t, _, H1, rfl, ⟨I.os, I.bare, ⟨fun b o q n hb _ => fly3.1 b o (inB b o (I.base.keep b o q n hb (noex b)) (ne0 b o q hb)), fun b o q n hb _ => sl b o q n hb, fun b o q n _ => I.base.free b o q n (noex b), fun b o q _ => ?_, I.base.tups, I.base.frzs, I.base.tbls⟩,
    fun b u q => ?_, fly3, ?_, fun b hb => ?_, fun b o q n hb => inB b o (I.base.keep b o q n hb (noex b)) (ne0 b o q hb), fun b o q hb => ?_, hE⟩⟩
  · by_cases hb : b ∈ frs outer
    · obtain ⟨sl', e'⟩ := sl b o q (I.ok.frf b hb) hb
      exact ⟨_, e'⟩
    · obtain ⟨o1, e1⟩ := I.base.there b o q (noex b)
      exact ⟨o1, fly3.1 b o1 (inB b o1 e1 (ne0 b o q hb))⟩
  · refine (I.hok b u q).stay (fun c v hc z => ?_) (fun _ z => z) fun _ _ z => z
    have : c ∉ s.heap.objs.size :: frs outer := by
      rcases hc with rfl | hc
      · exact trk c u q
      · exact trk c _ hc
    exact fly3.1 c v (inB c v z this)
  · cases q : s.heap.get? e with
    | none => rfl
    | some o =>
      obtain ⟨o1, e1⟩ := I.base.there e o q (noex e)
      rw [hx.new] at e1; cases e1
  · cases q : H1 b with
    | none => exact absurd q hb
    | some u =>
      obtain ⟨ob, z⟩ := (I.hok b u q).there
      exact ⟨ob, inB b ob z (trk b u q)⟩
  · obtain ⟨o1, e1⟩ := I.base.there b o q (noex b)
    exact ⟨o1, inB b o1 e1 (ne0 b o q hb)⟩
end
/-- the rule for a def whose exceptions lie as CX says -/
theorem Fun.okX {CX : CXT} {P : Program} {w : World} {K : PySem.W.Frag} {mg : Str → Option Value} {base : Heap} {x qual : Str} {st : Stmt} {f : Addr} {fd : FuncData} {N ps : List Str} {k : Nat} {sp : Sp} (F : Fun K x qual st f fd) (S : FnScope N ps (defScope st)) (len : ∀ vs H Q E, sp vs H Q E → vs.length = ps.length)
    (hbody : ∀ (cdv : Value) (A : Around) (outer : List Env) (s : Shared) (H : Hp) (vs : List V) (Q : VK) (E : XK), Room k (A.deeper (envOfC qual (defScope st) s.heap.objs.size f cdv)) → sp vs H Q E →
      ∃ t, PSs (cxOf CX P w K mg base N qual (defScope st) f cdv A outer s H E) (defBody st) t ∧ t { nx := fun _ H' => Q .non H', rt := Q } (start N vs) H) : FnOk P w K mg base CX (k + 1) f fd ps sp := by
  obtain ⟨oc, od, kV, doc, pm, an, cdv, ct, osl, rfl, lk, hcd⟩ := F.ex
  exact fn_of lk hcd S len fun A outer s H vs Q E hr hsp => hbody cdv A outer s H vs Q E hr hsp
end L2
set_option Elab.async false
set_option maxHeartbeats 4000000
namespace L2
open PySem PySem.Spec PyProof.Rows
section
variable {X : Cx} {e v1 v2 : Expr} {es : List Expr} {te : TE} {t : TJ} {pos : Pos}
end
abbrev bmVE : List Value := [.type "ValueError", .type "Exception", .type "BaseException", .type "object"]
theorem own_at {K : PySem.W.Frag} {h₀ : Heap} {mg : Str → Option Value} {x : Str} {C : Addr} {bmB : List Value} {newId : String} (X : K.In h₀) (hm : mg x = some (.ref C)) (q : PySem.W.excIn K C bmB newId = true) : OwnCls x C bmB newId mg h₀ := by
  refine ⟨hm, ?_⟩
  unfold PySem.W.excIn at q
  split at q
  · rename_i dd cd sl lk
    split at q
    · rename_i C' bm a0 a1 a2 a3 nn a5 em es
      simp only [Bool.and_eq_true, beq_iff_eq, Bool.not_eq_true'] at q
      obtain ⟨⟨⟨⟨⟨rfl, rfl⟩, q3⟩, q4⟩, q5⟩, q6⟩ := q
      obtain ⟨c1, c2, c3, c4, c5, c6, c7, c8, c9, c10, c11⟩ := cd
      dsimp only at em q3 q5 q6
      subst em q3
      have esl : sl = #[a0, a1, a2, a3, some (.builtin nn), a5] := by
        obtain ⟨l⟩ := sl
        simp only at es
        rw [es]
      subst esl
      exact ⟨bm, c4, c1, c5, c2, c6, c7, c8, c9, c10, dd, a0, a1, a2, a3, a5, _, X _ _ lk, .of_isNs (PySem.W.isNs_of_in X q5), PySem.W.nsMap_none_of_in X q5 q6, PySem.W.tail_of_in X q4⟩
    · cases q
  · cases q
section
variable {P : Program} {w : World} {K : PySem.W.Frag} {mg : Str → Option Value} {base : Heap} {N : List Str} {qual : Str} {scope : Scope} {f : Addr} {cd : Value} {A : Around} {outer : List Env} {s : Shared} {H : Hp} {E : XK}
def tRaise (C : Addr) (E : XK) (ta : TA) : TS := fun _ σ H => ta σ H fun vs H1 => vs.length ≤ sizeLine ∧ E (.ref C) none H1
theorem ps_raise {x : Str} {C : Addr} {e₀ : Expr} {rest : List Expr} {ta : TA} {np cpos pos : Pos} (hm : mg x = some (.ref C)) (hq : PySem.W.excIn K C bmVE "ValueError.__new__" = true) (hh : (A.deeper (envOfC qual scope s.heap.objs.size f cd)).handled = none)
    (ha : PA (cxOf (CX1 P w) P w K mg base N qual scope f cd A outer s H E) (e₀ :: rest) ta) (hg : Gl (cxOf (CX1 P w) P w K mg base N qual scope f cd A outer s H E) x := by rfl) (hd : (x == ("__debug__" : Str)) = false := by decide)
    (he : starEach (e₀ :: rest) (cxOf (CX1 P w) P w K mg base N qual scope f cd A outer s H E).env = (false, eval e₀ (cxOf (CX1 P w) P w K mg base N qual scope f cd A outer s H E).env) :: starEach rest (cxOf (CX1 P w) P w K mg base N qual scope f cd A outer s H E).env := by rfl)
    (hpl : (backTo cpos (starEach rest (cxOf (CX1 P w) P w K mg base N qual scope f cd A outer s H E).env)).any (·.1) = false := by rfl) :
    PS (cxOf (CX1 P w) P w K mg base N qual scope f cd A outer s H E) (.Raise (some (.Call (.Name x np) (e₀ :: rest) [] cpos)) none pos) (tRaise C E ta) := by
  intro pins s1 σ H1 D I h
  have O := own_at (bmB := bmVE) (newId := "ValueError.__new__") I.ok.mod.kin hm hq
  obtain ⟨tl, NN, nm, q, bs, hdct, sn, sub, ab, col, dd, k0, k1, k2, k3, k5, mN, hC, hN, hni, T⟩ := O.obj
  refine wpAny_Raise_call_subT (C := C) (nm := nm) (q := q) (N := NN) (bs := bs) (bm := tl) (hdct := hdct) (sn := sn) (sub := sub) (ab := ab) (col := col) (dd := dd) (k0 := k0) (k1 := k1) (k2 := k2) (k3 := k3) (k5 := k5)
    PySem.F.excBase_ValueError (mN := mN) (T.hasType PySem.F.excBase_ValueError.hasBase) hh (by rw [he]; show (false || (backTo cpos (starEach rest _)).any (·.1)) = false; rw [hpl]; rfl) hni (ld_glob I hg hm ⟨rfl, ?_⟩ hd)
  have hA := ha cpos pins s1 σ H1 _ I h
  rw [he] at hA ⊢
  refine Calls.evalArgs_plain (thn hA fun us s2 ⟨vs, H2, I2, r, hz, q⟩ => ⟨rfl, by rw [← r.length]; exact hz, I2.bk _ _ hC, hN.keeps I2.bk, T.keeps I2.bk, fun h' e hm => ?_⟩)
  exact madeX I2 hm q
end
end L2
set_option Elab.async false
set_option maxHeartbeats 4000000
namespace L2
open PySem PySem.Spec PyProof.Rows
section
variable {X : Cx} {pins : List (Addr × Obj)} {σ : St} {H : Hp} {s : Shared}
end
end L2
set_option Elab.async false
set_option maxHeartbeats 4000000
namespace L2
open PySem PySem.Spec PyProof.Rows
end L2
set_option Elab.async false
set_option maxHeartbeats 4000000
set_option maxRecDepth 20000
namespace L2
open PySem PySem.Spec PyProof.Rows
section
variable {prog : Program} {w : World} {A : Around} {E : Value → Shared → Prop} {s : Shared} {K : PySem.W.Frag} {x C : Addr} {ox : Obj}
open PySem.W PySem.Builtin PySem.Builtin.ObjectAttr PySem.Builtin.Getset_descriptor in
open PySem.W PySem.Builtin PySem.Builtin.ObjectAttr PySem.Builtin.Getset_descriptor in
open PySem.W PySem.Builtin PySem.Builtin.ObjectAttr PySem.Builtin.Getset_descriptor in
open PySem.W in
open PySem.W in
open PySem.W in
end
section
variable {X : Cx}
end
end L2
set_option Elab.async false
set_option maxHeartbeats 4000000
set_option maxRecDepth 20000
namespace L2
open PySem PySem.Spec PyProof.Rows
section
variable {X : Cx}
end
end L2
set_option Elab.async false
set_option maxHeartbeats 4000000
namespace L2
open PySem PySem.Spec PyProof.Rows
section
variable {P : Program} {w : World} {K : PySem.W.Frag} {mg : Str → Option Value} {base : Heap} {CX : CXT} {k : Nat} {f C : Addr} {fd : FuncData} {ps : List Str} {sp : Sp} {x m : Str}
theorem FnOk.lift (F : FnOk P w K mg base CX0 k f fd ps sp) : FnOk P w K mg base CX k f fd ps sp :=
  ⟨F.len, fun A outer s H args us vs Q E hr he hb hv hs => codeAny_mono (F.run A outer s H args us vs Q E hr he hb hv hs) fun r s' z => by
    cases r with
    | ok f => cases f <;> exact z
    | error e => exact (show False from z).elim⟩
theorem DefOk.lift (D : DefOk P w K mg base CX0 x k ps sp) : DefOk P w K mg base CX x k ps sp := by
  obtain ⟨f, fd, h, r⟩ := D.ex
  exact ⟨f, fd, h.lift, r⟩
theorem MethOk.lift (D : MethOk P w K mg base CX0 C m k ps sp) : MethOk P w K mg base CX C m k ps sp := by
  obtain ⟨f, fd, h, r⟩ := D.ex
  exact ⟨D.cls, f, fd, h.lift, r⟩
end
end L2
set_option Elab.async false
set_option maxHeartbeats 4000000
namespace L2
open PySem PySem.Spec PyProof.Rows
def cxLCS (X : Cx) (NB : List Str) (scope : Scope) (cl : List (Str × Addr)) (C : Addr) (x : Str) (s0 : Shared) (H0 : Hp) (fp : List Addr) (pn : List (Addr × Obj)) : Cx :=
  { X with N := x :: NB, s₀ := s0, H₀ := H0, env := compEnvC scope cl C X.env, outer := X.stack, stack := X.stack, ex := fp, fn := fun _ => false, pn := pn, xe := fun _ _ => False }
theorem pe_lcS {X : Cx} (NB : List Str) {x : Str} {px : Pos} {iter elt : Expr} {ifs : List Expr} {scope : Scope} {pos : Pos} {wi : TI} {tc : TT} {te : TE} (hc : X.calm = true) (hi : PI X (.Name x px) iter wi)
    (ht : ∀ cl C s0 H0 fp pn, PTs (cxLCS X NB scope cl C x s0 H0 fp pn) ifs tc) (he : ∀ cl C s0 H0 fp pn, PE (cxLCS X NB scope cl C x s0 H0 fp pn) elt te)
    (hlen : NB.length = X.N.length) (hsub : ∀ (j : Nat) (y : Str), NB[j]? = some y → X.N[j]? = some y ∨ scope.names.lookup y = none) (hndB : NB.Nodup) (hN : ∀ y ∈ NB, scope.names.lookup y ≠ some .local) (hx : scope.names.lookup x = some .local)
    (hfree : ∀ y ∈ scope.names, y.2 = .free → X.env.kindOf y.1 = some .cell) (hcell : ∀ y ∈ scope.names, y.2 ≠ .cell)
    (hnames : ∀ y ∈ scope.names, y.2 = .local → scope.names.lookup y.1 = some .local) (hkind : scope.kind = .function := by rfl)
    (hs : ∀ x, foldedSetIterable iter X.env x = pure x := by intro _; rfl) : PE X (.ListComp elt [⟨.Name x px, iter, ifs, 0⟩] scope pos) (tLC wi tc te) := by
  intro pins s σ H Q I h
  obtain ⟨cl, hclos, hcl1, hcl2⟩ := closureFor_ok (env := X.env) (scope := scope) fun n hn => I.ok.has n (.inl (hfree (n, .free) hn rfl))
  rw [eval_ListComp]
  refine wpAny_comprehension_free (use := none) rfl hs hclos hkind hnames (thn (hi pins s σ H _ I h) fun xv s1 h1 => thn h1 fun itv s2 h2 => ?_)
  obtain ⟨it, fp, tn, J, H2, e, I2, T, st2, f2, W, ⟨m0, w0⟩, turn⟩ := h2
  subst e
  refine wpAny_newObj_type (wpAny_newFunctionEnv hcell (by intro y hy; simp at hy) (fun h₁ hns₁ hsb₁ => ?_) hkind)
  dsimp only at hns₁ hsb₁ ⊢
  generalize hH2 : s2.heap.push { cls := .type "list", dict := none, data := .seq ([] : List Value).toArray } = HH at hns₁ hsb₁ ⊢
  have hC : HH.objs.size = s2.heap.objs.size + 1 := by rw [← hH2, Heap.size_push]
  have hDC : s2.heap.objs.size ≠ HH.objs.size := by rw [hC]; exact Nat.ne_of_lt (Nat.lt_succ_self _)
  have below : ∀ b, b < s2.heap.objs.size → b ≠ HH.objs.size ∧ b ≠ s2.heap.objs.size := fun b hb => ⟨by rw [hC]; exact Nat.ne_of_lt (Nat.lt_succ_of_lt hb), Nat.ne_of_lt hb⟩
  have old : ∀ b o, s2.heap.get? b = some o → h₁.get? b = some o := fun b o e => hsb₁.extBut b o (below b (Heap.lt_size e)).1 (Heap.get?_push_of_some _ (hH2 ▸ Heap.get?_push_of_some _ e))
  have hacc : h₁.get? s2.heap.objs.size = some (lobj [] 0) := hsb₁.extBut _ _ hDC (Heap.get?_push_of_some _ (hH2 ▸ Heap.get?_push_size _ rfl))
  have hfpo := T.obj 0 _ st2
  have hfplt : ∀ b ∈ fp, b < s2.heap.objs.size := fun b hb => by
    obtain ⟨o, e, _⟩ := hfpo b hb
    exact Heap.lt_size e
  have stl : ∀ b ∈ frs X.stack, b < s2.heap.objs.size := fun b hb => by
    obtain ⟨_, o, ho, _⟩ := I2.stack.mem hb
    exact Heap.lt_size ho
  have celt : ∀ y c, X.env.cells.lookup y = some c → c < s2.heap.objs.size := fun y c e => by
    obtain ⟨v, q⟩ := I2.cell y c e
    exact q.lt
  have hpf : ∀ p ∈ X.pn ++ pins, p.1 ∉ frs X.stack := fun p hp z => by
    obtain ⟨_, _, n1, n2, _⟩ := I2.pin p hp
    rcases List.mem_cons.mp (I2.stkSub _ z) with q | q
    · exact n1 q
    · exact n2 q
  -- the block's context
  have okX : (cxLCS X NB scope cl HH.objs.size x s2 H2 fp (X.pn ++ pins)).Ok := by
    refine ⟨I2.ok.mod, hkind, I2.ok.glob, I2.ok.blt, ?_, fun y z c e1 e2 => I2.ok.inj y z c (hcl1 _ _ e1) (hcl1 _ _ e2), fun y hy => ?_, fun y c hf => (nomatch hf), I2.ok.hd, I2.ok.frames, .inl rfl, fun b hb => ?_, I2.bs, ?_, fun b o e hb => ?_, fun b hb => ?_, I2.stack, I2.stkFree⟩
    · show s2.heap.objs.size ≤ HH.objs.size
      rw [hC]; exact Nat.le_succ _
    · have hy' : (relabel scope X.env).names.lookup y = some .cell ∨ (relabel scope X.env).names.lookup y = some .free := hy
      rw [names_relabel] at hy'
      have : scope.names.lookup y = some .free := by
        cases q : scope.names.lookup y with
        | none => rw [q] at hy'; rcases hy' with z | z <;> cases z
        | some k =>
          have hm := PySem.mem_of_lookup q
          rw [q] at hy'
          have hk : gRel X.env y k = .cell ∨ gRel X.env y k = .free := by simpa using hy'
          unfold gRel at hk
          split at hk
          · rename_i c
            simp at c
            rw [c.1.1]
          · rcases hk with z | z
            · exact absurd z (hcell _ hm)
            · rw [z]
      exact hcl2 y (PySem.mem_of_lookup this)
    · refine ⟨?_, fun y c e z => (f2 b hb).2.2.2.2.1 y c (hcl1 _ _ e) z⟩
      exact (below b (hfplt b hb)).1
    · exact Nat.le_trans I2.ok.bsz I2.sz
    · have := (I2.bs b o e).2
      rcases (f2 b hb).2.2.2.1 with z | z
      · exact I2.ok.noex b o e z
      · exact absurd (Nat.lt_of_lt_of_le (Heap.lt_size (I2.ok.bs b o e).1) z) (Nat.lt_irrefl _)
    · intro z
      rcases List.mem_cons.mp (I2.stkSub _ z) with q | q
      · exact (f2 b hb).2.1 q
      · exact (f2 b hb).2.2.1 q
  have start : ∀ t, Inv (cxLCS X NB scope cl HH.objs.size x s2 H2 fp (X.pn ++ pins)) [(s2.heap.objs.size, lobj [] 0)] (none :: σ) H2 { s2 with heap := h₁, toks := t } := fun t => by
    refine ⟨okX, rfl, I2.bare, Un.kept old, ⟨_, hns₁, fun i y v e1 e2 e3 => ?_⟩, fun y c e => ?_, I2.hok.fresh (by show s2.heap.objs.size ≤ HH.objs.size; rw [hC]; exact Nat.le_succ _), fun y c e => I2.freeC y c (hcl1 _ _ e), fun p hp => ?_, I2.hok.kept old, ?_⟩
    · cases i with
      | zero => cases e2
      | succ j =>
        have e0' : NB[j]? = some y := e1
        have e2' : σ[j]? = some (some v) := e2
        have hyN : y ∈ NB := List.mem_of_getElem? e0'
        have e3' : Vis (relabel scope X.env) y := e3
        unfold Vis at e3'
        rw [names_relabel] at e3'
        cases q : scope.names.lookup y with
        | none => rw [q] at e3'; rcases e3' with z | z | z <;> cases z
        | some k =>
          have hm := PySem.mem_of_lookup q
          rw [q] at e3'
          have kf : k = .free := by
            have hk : gRel X.env y k = .local ∨ gRel X.env y k = .cell ∨ gRel X.env y k = .free := by simpa using e3'
            unfold gRel at hk
            split at hk
            · rename_i c; simp at c; exact c.1.1
            · rcases hk with z | z | z
              · exact absurd (q.trans (congrArg some z)) (hN y hyN)
              · exact absurd z (hcell _ hm)
              · exact z
          subst kf
          have kc := hfree _ hm rfl
          have e1' : X.N[j]? = some y := (hsub j y e0').resolve_right (by rw [q]; exact fun z => nomatch z)
          obtain ⟨m, hn, hl⟩ := I2.loc
          obtain ⟨u, ru, lk⟩ := hl j y v e1' e2' (.inr (.inl kc))
          refine ⟨u, ru, ?_⟩
          rcases lk with ⟨z, _⟩ | ⟨_, c, ec, hcell'⟩
          · rw [kc] at z; cases z
          · obtain ⟨c', ec'⟩ := hcl2 y hm
            have : c' = c := by have z := hcl1 _ _ ec'; rw [ec] at z; exact (Option.some.inj z).symm
            subst this
            refine .inr ⟨.inl ?_, c', ec', ?_⟩
            · show (relabel scope X.env).names.lookup y = some .cell
              rw [names_relabel, q]
              show some (gRel X.env y .free) = _
              unfold gRel
              rw [I2.ok.kind, kc]; rfl
            · obtain ⟨o, ho, hd⟩ := hcell'
              exact ⟨o, old _ _ ho, hd⟩
    · obtain ⟨v, o, ho, hd⟩ := I2.cell y c (hcl1 _ _ e)
      exact ⟨v, o, old _ _ ho, hd⟩
    · rcases List.mem_append.mp hp with hp | hp
      · obtain ⟨a1, a2, a3, a4, a5⟩ := I2.pin p hp
        exact ⟨old _ _ a1, a2, (below _ (Heap.lt_size a1)).1, hpf p hp, a5⟩
      · have ep : p = (s2.heap.objs.size, lobj [] 0) := by simpa using hp
        subst ep
        exact ⟨hacc, I2.hok.fresh (Nat.le_refl _), hDC, fun z => absurd (stl _ z) (Nat.lt_irrefl _), fun v z => nomatch z⟩
    · show (none :: σ).length = (x :: NB).length
      rw [List.length_cons, List.length_cons, I2.len, hlen]
  have fpo : ∀ {H' : Hp} {pl : List (Addr × Obj)}, (∀ b ∈ fp, H' b = none) → (∀ p ∈ pl, p.1 = s2.heap.objs.size) → ∀ b ∈ fp, FpOk (cxLCS X NB scope cl HH.objs.size x s2 H2 fp (X.pn ++ pins)) pl H' b := fun hn hpl b hb => by
    obtain ⟨_, a2, a3, a4, a5, a6⟩ := f2 b hb
    refine ⟨hn b hb, (below b (hfplt b hb)).1, fun z => ?_, .inl hb, fun y c e z => a5 y c (hcl1 _ _ e) z, fun p hp z => ?_⟩
    · rcases List.mem_cons.mp (I2.stkSub _ z) with q | q
      · exact a2 q
      · exact a3 q
    · rcases List.mem_append.mp hp with hp | hp
      · exact a6 p hp z
      · have := hpl p hp
        rw [this] at z
        exact (below b (hfplt b hb)).2 z.symm
  have hnd' : (x :: NB).Nodup := List.nodup_cons.mpr ⟨fun z => hN x z hx, hndB⟩
  have loop : ∀ t, codeAny (model X.prog X.w) X.A (.compLoop (.ListComp elt [⟨.Name x px, iter, ifs, 0⟩] scope pos) 0 (.ref it) (.ref s2.heap.objs.size) (compEnvC scope cl HH.objs.size X.env))
      (compPost (model X.prog X.w) X.A X.xe none (EP X pins σ Q) (.ref s2.heap.objs.size) HH.objs.size) { s2 with heap := h₁, toks := t } := fun t => by
    refine compLoop_own (fun n s' => ∃ i ys its k H', Inv (cxLCS X NB scope cl HH.objs.size x s2 H2 fp (X.pn ++ pins)) [(s2.heap.objs.size, lobj its k)] (none :: σ) H' s' ∧ Vals ys its ∧ ys.length ≤ sizeLine ∧ tn i s'.heap ∧ (∀ b ∈ fp, H' b = none) ∧ W i n ys H') ?_ m0
      ⟨0, [], [], 0, H2, start t, .nil, Nat.zero_le _, T.keep _ _ _ st2 fun b _ o e => old b o e, fun b hb => (f2 b hb).1, w0⟩
    rintro n s3 ⟨i, ys, its, k, H3, I3, r3, z3, st3, fr3, w3⟩
    have hone : ∀ p ∈ [(s2.heap.objs.size, lobj its k)], p.1 = s2.heap.objs.size := fun p hp => by
      have : p = (s2.heap.objs.size, lobj its k) := by simpa using hp
      rw [this]
    rcases turn i n ys H3 w3 with ⟨stop, qn⟩ | ⟨go, zlt, NN, hNN, step⟩
    · refine thn (T.done (cxLCS X NB scope cl HH.objs.size x s2 H2 fp (X.pn ++ pins)) rfl rfl rfl hc i _ s3 (none :: σ) H3 (fun _ _ => False) I3 (fpo fr3 hone) st3 stop) fun r s4 ⟨hr, I4⟩ => ?_
      subst hr
      obtain ⟨m, hm, _⟩ := I4.loc
      refine ⟨m, hm, fun h' sb => ?_⟩
      have pD := I4.pin (s2.heap.objs.size, lobj its k) (List.mem_append_right _ List.mem_cons_self)
      have gD : h'.get? s2.heap.objs.size = some (lobj its k) := (sb.2 _ hDC).trans pD.1
      refine ⟨.ref s2.heap.objs.size, upd H3 s2.heap.objs.size (.lst ys), I2.call' (ch := fp) (I4.os) (Un.late I4.base (fun b q e => I2.hok.lt e) (Nat.le_refl _) fun b hb => sb.2 b (below b hb).1) (fun b u e => ?_) I4.bare (fun b hb => ?_), rfl, qn _ pD.2.1⟩
      · by_cases hb : b = s2.heap.objs.size
        · subst hb
          rw [upd_same] at e
          cases e
          exact ⟨z3, its, k, r3, gD⟩
        · rw [upd_ne hb] at e
          refine (I4.hok b u e).stay (fun c v hcc q => (sb.2 c ?_).trans q) (fun c q => ?_) fun c xs q => ?_
          · rintro rfl
            have fr := I4.free
            rcases hcc with z | z
            · rw [← z] at e; rw [show (cxLCS X NB scope cl HH.objs.size x s2 H2 fp (X.pn ++ pins)).env.locals = HH.objs.size from rfl] at fr; rw [fr] at e; cases e
            · rw [show (cxLCS X NB scope cl HH.objs.size x s2 H2 fp (X.pn ++ pins)).env.locals = HH.objs.size from rfl] at fr; rw [fr] at z; cases z
          · rw [upd_ne (ne_of_none q pD.2.1)]; exact q
          · rw [upd_ne (ne_of_none q pD.2.1)]; exact q
      · obtain ⟨_, a2, _, a4, a5, a6⟩ := f2 b hb
        exact ⟨a4, a2, a5, a6⟩
    · refine thn (T.item (cxLCS X NB scope cl HH.objs.size x s2 H2 fp (X.pn ++ pins)) rfl rfl rfl hc i _ s3 (none :: σ) H3 (fun _ _ => False) I3 (fpo fr3 hone) st3 go) fun r s4 ⟨u, hr, h4⟩ => ?_
      subst hr
      refine thn h4 fun _ s5 ⟨v, H5, I5, r5, y5, st5, fr5⟩ => ?_
      have I5' := I5.pinned (fpo fr5 hone) (T.obj _ _ st5)
      refine wpAny_assign_Name (store_ok (X := cxLCS X NB scope cl HH.objs.size x s2 H2 fp (X.pn ++ pins)) (i := 0) I5' hnd' rfl (.inl (by show (relabel scope X.env).names.lookup x = _; rw [names_relabel, hx]; rfl)) r5 (fun s6 I6 => ?_) (.inr (by show (relabel scope X.env).names.lookup x = _; rw [names_relabel, hx]; rfl)))
      have I6' : Inv (cxLCS X NB scope cl HH.objs.size x s2 H2 fp (X.pn ++ pins)) ([(s2.heap.objs.size, lobj its k)] ++ pinsAt fp s5.heap) (some v :: σ) H5 s6 := I6
      refine thn (ht cl HH.objs.size s2 H2 fp (X.pn ++ pins) _ s6 _ H5 _ I6' (step v H5 y5)) fun c s7 ⟨H7, I7, q7⟩ => ?_
      -- what the block's state says of the iterator and the list
      have again : ∀ {H9 : Hp} {s9 : Shared} {σ9 : St} {zs : List V} {jts : List Value} {k' : Nat}, Inv (cxLCS X NB scope cl HH.objs.size x s2 H2 fp (X.pn ++ pins)) ([(s2.heap.objs.size, lobj jts k')] ++ pinsAt fp s5.heap) (some v :: σ) H9 s9 → Vals zs jts → zs.length ≤ sizeLine → NN zs H9 →
          ∃ m, m < n ∧ ∃ i ys its k H', Inv (cxLCS X NB scope cl HH.objs.size x s2 H2 fp (X.pn ++ pins)) [(s2.heap.objs.size, lobj its k)] (none :: σ) H' s9 ∧ Vals ys its ∧ ys.length ≤ sizeLine ∧ tn i s9.heap ∧ (∀ b ∈ fp, H' b = none) ∧ W i m ys H' := fun {H9 s9 σ9 zs jts k'} I9 r9 z9 n9 => by
        obtain ⟨m', hm, w9⟩ := hNN zs H9 n9
        refine ⟨m', hm, i + 1, zs, jts, k', H9, (I9.unpinned.weak (σ' := none :: σ) rfl fun j v' e => ?_), r9, z9, T.keep _ _ _ st5 fun b hb o e => (I9.pin (b, o) (List.mem_append_right _ (List.mem_append_right _ (mem_pinsAt hb e)))).1, fun b hb => ?_, w9⟩
        · cases j with
          | zero => cases e
          | succ j => exact e
        · obtain ⟨o, e, d⟩ := T.obj _ _ st5 b hb
          exact (I9.pin (b, o) (List.mem_append_right _ (List.mem_append_right _ (mem_pinsAt hb e)))).2.1
      cases c with
      | false =>
        simp only [Bool.false_eq_true, if_false] at q7 ⊢
        exact again (σ9 := []) I7 r3 z3 q7
      | true =>
        simp only [if_true] at q7 ⊢
        refine thn (he cl HH.objs.size s2 H2 fp (X.pn ++ pins) _ s7 _ H7 _ I7 q7) fun u8 s8 ⟨y, H8, I8, r8, q8⟩ => ?_
        have pD := I8.pin (s2.heap.objs.size, lobj its k) (List.mem_append_right _ (List.mem_append_left _ List.mem_cons_self))
        refine append_at (hsz := by rw [List.size_toArray, ← r3.length]; exact z3) pD.1 fun h9 sb9 hD9 => ?_
        have e9 : ({ cls := .type "list", data := .seq (its.toArray.push u8) (k + 1) } : Obj) = lobj (its ++ [u8]) (k + 1) := by
          show _ = ({ cls := .type "list", data := .seq (its ++ [u8]).toArray (k + 1) } : Obj)
          rw [List.push_toArray]
        rw [e9] at hD9
        have Ia : Inv (cxLCS X NB scope cl HH.objs.size x s2 H2 fp (X.pn ++ pins)) (pinsAt fp s5.heap) (some v :: σ) H8 s8 := I8.pins_of fun p hp => I8.pin p (List.mem_append_right _ (List.mem_append_right _ hp))
        have nfp : ∀ p ∈ pinsAt fp s5.heap, p.1 ≠ s2.heap.objs.size := fun p hp => (below _ (hfplt _ (of_pinsAt hp).1)).2
        have Ib : Inv (cxLCS X NB scope cl HH.objs.size x s2 H2 fp (X.pn ++ pins)) (pinsAt fp s5.heap) (some v :: σ) H8 { s8 with heap := h9, toks := s8.toks } := by
          refine Ia.turned (it := s2.heap.objs.size) (fun b o hb e => (sb9.2 b hb).trans e) pD.2.1 pD.2.2.1 (.inr (Nat.le_refl _)) (fun y' c e z => absurd (celt _ _ (hcl1 _ _ e)) (by rw [z]; exact Nat.lt_irrefl _)) fun p hp => ?_
          rcases List.mem_append.mp hp with hp | hp
          · exact (below _ (Heap.lt_size (I2.pin p hp).1)).2
          · exact nfp p hp
        refine again (σ9 := []) (zs := ys ++ [y]) (jts := its ++ [u8]) (k' := k + 1) (Ib.pins_of fun p hp => ?_) (r3.append (.cons r8 .nil)) (by rw [List.length_append]; exact zlt) q8
        rcases List.mem_append.mp hp with hp | hp
        · have ep : p = (s2.heap.objs.size, lobj (its ++ [u8]) (k + 1)) := by simpa using hp
          subst ep
          exact ⟨hD9, pD.2.1, pD.2.2.1, pD.2.2.2.1, fun v z => nomatch z⟩
        · exact Ib.pin p (List.mem_append_right _ hp)
  exact codeAny_compStart_list (loop _) (T.self _ 0 _ _ _ (T.keep _ _ _ st2 fun b _ o e => old b o e) (loop _))
def lcOkS (N NB : List Str) (names outer : List (Str × NameKind)) (x : Str) : Bool :=
  (NB.length == N.length && (NB.zip N).all fun p => p.1 == p.2 || names.lookup p.1 == none) && lcOk NB names outer x
theorem pe_lcSB {X : Cx} (NB : List Str) {x : Str} {px : Pos} {iter elt : Expr} {ifs : List Expr} {scope : Scope} {pos : Pos} {wi : TI} {tc : TT} {te : TE} (hc : X.calm = true) (hi : PI X (.Name x px) iter wi)
    (ht : ∀ cl C s0 H0 fp pn, PTs (cxLCS X NB scope cl C x s0 H0 fp pn) ifs tc) (he : ∀ cl C s0 H0 fp pn, PE (cxLCS X NB scope cl C x s0 H0 fp pn) elt te) (hok : lcOkS X.N NB scope.names X.env.scope.names x = true) (hndB : NB.Nodup := by decide +kernel) (hkind : scope.kind = .function := by rfl)
    (hs : ∀ x, foldedSetIterable iter X.env x = pure x := by intro _; rfl) : PE X (.ListComp elt [⟨.Name x px, iter, ifs, 0⟩] scope pos) (tLC wi tc te) := by
  unfold lcOkS lcOk at hok
  rw [Bool.and_eq_true, Bool.and_eq_true, Bool.and_eq_true, Bool.and_eq_true, List.all_eq_true, List.all_eq_true, List.all_eq_true, beq_iff_eq] at hok
  obtain ⟨⟨hl, hz⟩, h1, h2, h3⟩ := hok
  refine pe_lcS NB hc hi ht he hl (fun j y e => ?_) hndB (fun y hy => ?_) (by simpa using h2) (fun y hy e => ?_) (fun y hy => ?_) (fun y hy e => ?_) hkind hs
  · have hj : j < NB.length := (List.getElem?_eq_some_iff.mp e).1
    have hj' : j < X.N.length := by omega
    have hm : (y, X.N[j]) ∈ NB.zip X.N := by
      have : (NB.zip X.N)[j]? = some (y, X.N[j]) := by
        rw [List.getElem?_zip_eq_some]
        exact ⟨e, List.getElem?_eq_getElem hj'⟩
      exact List.mem_of_getElem? this
    have := hz _ hm
    rw [Bool.or_eq_true, beq_iff_eq, beq_iff_eq] at this
    rcases this with h | h
    · left
      rw [List.getElem?_eq_getElem hj']
      exact congrArg some (show X.N[j] = y from h.symm)
    · exact .inr h
  · simpa using h1 y hy
  · have := h3 y hy
    rw [e] at this
    simp at this
    exact this
  · have := h3 y hy
    intro z
    rw [z] at this
    simp at this
  · have := h3 y hy
    rw [e] at this
    simp at this
    exact this
end L2
set_option Elab.async false
set_option maxHeartbeats 4000000
namespace L2
open PySem PySem.Spec PyProof.Rows
section
variable {X : Cx}
end
end L2
set_option Elab.async false
set_option maxHeartbeats 4000000
namespace L2
open PySem PySem.Spec PyProof.Rows
theorem lc_core {X : Cx} (NB : List Str) (use : Option (Value → Sem Unit)) (QF : Value → Shared → Prop) {x : Str} {px : Pos} {iter elt : Expr} {ifs : List Expr} {scope : Scope} {pos : Pos} {wi : TI} {tc : TT} {te : TE} {pins : List (Addr × Obj)} {s : Shared} {σ : St} {H : Hp} {Q : VK} {cp : Pos} (hc : X.calm = true) (hi : PI X (.Name x px) iter wi)
    (ht : ∀ cl C s0 H0 fp pn, PTs (cxLCS X NB scope cl C x s0 H0 fp pn) ifs tc) (he : ∀ cl C s0 H0 fp pn, PE (cxLCS X NB scope cl C x s0 H0 fp pn) elt te)
    (hlen : NB.length = X.N.length) (hsub : ∀ (j : Nat) (y : Str), NB[j]? = some y → X.N[j]? = some y ∨ scope.names.lookup y = none) (hndB : NB.Nodup) (hN : ∀ y ∈ NB, scope.names.lookup y ≠ some .local) (hx : scope.names.lookup x = some .local)
    (hfree : ∀ y ∈ scope.names, y.2 = .free → X.env.kindOf y.1 = some .cell) (hcell : ∀ y ∈ scope.names, y.2 ≠ .cell)
    (hnames : ∀ y ∈ scope.names, y.2 = .local → scope.names.lookup y.1 = some .local) (hkind : scope.kind = .function)
    (hs : ∀ x, foldedSetIterable iter X.env x = pure x) (I : Inv X pins σ H s) (h : tLC wi tc te σ H Q)
    (hR : ∀ (D C : Addr) (s4 : Shared) (H4 : Hp) (m : Str → Option Value), s4.heap.Ns C m → X.s₀.heap.objs.size ≤ C → C ≠ X.env.locals → C ∉ X.fs → (∀ y c, X.env.cells.lookup y = some c → c ≠ C) → (∀ p ∈ X.pn ++ pins, p.1 ≠ C) → H4 C = none → (∀ h', Heap.SameBut C s4.heap h' → Inv X pins σ H4 { s4 with heap := h' }) → Q (.ref D) H4 → compPost (model X.prog X.w) X.A X.xe use QF (.ref D) C (.ok .next) s4) :
    wpAny (model X.prog X.w) X.A (comprehension (.ListComp elt [⟨.Name x px, iter, ifs, 0⟩] scope pos) scope X.env cp (newList []) false (eval iter X.env) use) QF X.xe s := by
  obtain ⟨cl, hclos, hcl1, hcl2⟩ := closureFor_ok (env := X.env) (scope := scope) fun n hn => I.ok.has n (.inl (hfree (n, .free) hn rfl))
  refine wpAny_comprehension_free (use := use) rfl hs hclos hkind hnames (thn (hi pins s σ H _ I h) fun xv s1 h1 => thn h1 fun itv s2 h2 => ?_)
  obtain ⟨it, fp, tn, J, H2, e, I2, T, st2, f2, W, ⟨m0, w0⟩, turn⟩ := h2
  subst e
  refine wpAny_newObj_type (wpAny_newFunctionEnv hcell (by intro y hy; simp at hy) (fun h₁ hns₁ hsb₁ => ?_) hkind)
  dsimp only at hns₁ hsb₁ ⊢
  generalize hH2 : s2.heap.push { cls := .type "list", dict := none, data := .seq ([] : List Value).toArray } = HH at hns₁ hsb₁ ⊢
  have hC : HH.objs.size = s2.heap.objs.size + 1 := by rw [← hH2, Heap.size_push]
  have hDC : s2.heap.objs.size ≠ HH.objs.size := by rw [hC]; exact Nat.ne_of_lt (Nat.lt_succ_self _)
  have below : ∀ b, b < s2.heap.objs.size → b ≠ HH.objs.size ∧ b ≠ s2.heap.objs.size := fun b hb => ⟨by rw [hC]; exact Nat.ne_of_lt (Nat.lt_succ_of_lt hb), Nat.ne_of_lt hb⟩
  have old : ∀ b o, s2.heap.get? b = some o → h₁.get? b = some o := fun b o e => hsb₁.extBut b o (below b (Heap.lt_size e)).1 (Heap.get?_push_of_some _ (hH2 ▸ Heap.get?_push_of_some _ e))
  have hacc : h₁.get? s2.heap.objs.size = some (lobj [] 0) := hsb₁.extBut _ _ hDC (Heap.get?_push_of_some _ (hH2 ▸ Heap.get?_push_size _ rfl))
  have hfpo := T.obj 0 _ st2
  have hfplt : ∀ b ∈ fp, b < s2.heap.objs.size := fun b hb => by
    obtain ⟨o, e, _⟩ := hfpo b hb
    exact Heap.lt_size e
  have stl : ∀ b ∈ frs X.stack, b < s2.heap.objs.size := fun b hb => by
    obtain ⟨_, o, ho, _⟩ := I2.stack.mem hb
    exact Heap.lt_size ho
  have celt : ∀ y c, X.env.cells.lookup y = some c → c < s2.heap.objs.size := fun y c e => by
    obtain ⟨v, q⟩ := I2.cell y c e
    exact q.lt
  have hpf : ∀ p ∈ X.pn ++ pins, p.1 ∉ frs X.stack := fun p hp z => by
    obtain ⟨_, _, n1, n2, _⟩ := I2.pin p hp
    rcases List.mem_cons.mp (I2.stkSub _ z) with q | q
    · exact n1 q
    · exact n2 q
  have locLt : X.env.locals < s2.heap.objs.size := by
    obtain ⟨m, ⟨o, _, _, ho, _⟩, _⟩ := I2.loc
    exact Heap.lt_size ho
  have fsLt : ∀ b ∈ X.fs, b < s2.heap.objs.size := fun b hb => by
    obtain ⟨_, o, ho, _⟩ := I2.ok.funs.mem hb
    exact Nat.lt_of_lt_of_le (Heap.lt_size ho) I2.sz
  -- the block's context
  have okX : (cxLCS X NB scope cl HH.objs.size x s2 H2 fp (X.pn ++ pins)).Ok := by
    refine ⟨I2.ok.mod, hkind, I2.ok.glob, I2.ok.blt, ?_, fun y z c e1 e2 => I2.ok.inj y z c (hcl1 _ _ e1) (hcl1 _ _ e2), fun y hy => ?_, fun y c hf => (nomatch hf), I2.ok.hd, I2.ok.frames, .inl rfl, fun b hb => ?_, I2.bs, ?_, fun b o e hb => ?_, fun b hb => ?_, I2.stack, I2.stkFree⟩
    · show s2.heap.objs.size ≤ HH.objs.size
      rw [hC]; exact Nat.le_succ _
    · have hy' : (relabel scope X.env).names.lookup y = some .cell ∨ (relabel scope X.env).names.lookup y = some .free := hy
      rw [names_relabel] at hy'
      have : scope.names.lookup y = some .free := by
        cases q : scope.names.lookup y with
        | none => rw [q] at hy'; rcases hy' with z | z <;> cases z
        | some k =>
          have hm := PySem.mem_of_lookup q
          rw [q] at hy'
          have hk : gRel X.env y k = .cell ∨ gRel X.env y k = .free := by simpa using hy'
          unfold gRel at hk
          split at hk
          · rename_i c
            simp at c
            rw [c.1.1]
          · rcases hk with z | z
            · exact absurd z (hcell _ hm)
            · rw [z]
      exact hcl2 y (PySem.mem_of_lookup this)
    · refine ⟨?_, fun y c e z => (f2 b hb).2.2.2.2.1 y c (hcl1 _ _ e) z⟩
      exact (below b (hfplt b hb)).1
    · exact Nat.le_trans I2.ok.bsz I2.sz
    · have := (I2.bs b o e).2
      rcases (f2 b hb).2.2.2.1 with z | z
      · exact I2.ok.noex b o e z
      · exact absurd (Nat.lt_of_lt_of_le (Heap.lt_size (I2.ok.bs b o e).1) z) (Nat.lt_irrefl _)
    · intro z
      rcases List.mem_cons.mp (I2.stkSub _ z) with q | q
      · exact (f2 b hb).2.1 q
      · exact (f2 b hb).2.2.1 q
  have start : ∀ t, Inv (cxLCS X NB scope cl HH.objs.size x s2 H2 fp (X.pn ++ pins)) [(s2.heap.objs.size, lobj [] 0)] (none :: σ) H2 { s2 with heap := h₁, toks := t } := fun t => by
    refine ⟨okX, rfl, I2.bare, Un.kept old, ⟨_, hns₁, fun i y v e1 e2 e3 => ?_⟩, fun y c e => ?_, I2.hok.fresh (by show s2.heap.objs.size ≤ HH.objs.size; rw [hC]; exact Nat.le_succ _), fun y c e => I2.freeC y c (hcl1 _ _ e), fun p hp => ?_, I2.hok.kept old, ?_⟩
    · cases i with
      | zero => cases e2
      | succ j =>
        have e0' : NB[j]? = some y := e1
        have e2' : σ[j]? = some (some v) := e2
        have hyN : y ∈ NB := List.mem_of_getElem? e0'
        have e3' : Vis (relabel scope X.env) y := e3
        unfold Vis at e3'
        rw [names_relabel] at e3'
        cases q : scope.names.lookup y with
        | none => rw [q] at e3'; rcases e3' with z | z | z <;> cases z
        | some k =>
          have hm := PySem.mem_of_lookup q
          rw [q] at e3'
          have kf : k = .free := by
            have hk : gRel X.env y k = .local ∨ gRel X.env y k = .cell ∨ gRel X.env y k = .free := by simpa using e3'
            unfold gRel at hk
            split at hk
            · rename_i c; simp at c; exact c.1.1
            · rcases hk with z | z | z
              · exact absurd (q.trans (congrArg some z)) (hN y hyN)
              · exact absurd z (hcell _ hm)
              · exact z
          subst kf
          have kc := hfree _ hm rfl
          have e1' : X.N[j]? = some y := (hsub j y e0').resolve_right (by rw [q]; exact fun z => nomatch z)
          obtain ⟨m, hn, hl⟩ := I2.loc
          obtain ⟨u, ru, lk⟩ := hl j y v e1' e2' (.inr (.inl kc))
          refine ⟨u, ru, ?_⟩
          rcases lk with ⟨z, _⟩ | ⟨_, c, ec, hcell'⟩
          · rw [kc] at z; cases z
          · obtain ⟨c', ec'⟩ := hcl2 y hm
            have : c' = c := by have z := hcl1 _ _ ec'; rw [ec] at z; exact (Option.some.inj z).symm
            subst this
            refine .inr ⟨.inl ?_, c', ec', ?_⟩
            · show (relabel scope X.env).names.lookup y = some .cell
              rw [names_relabel, q]
              show some (gRel X.env y .free) = _
              unfold gRel
              rw [I2.ok.kind, kc]; rfl
            · obtain ⟨o, ho, hd⟩ := hcell'
              exact ⟨o, old _ _ ho, hd⟩
    · obtain ⟨v, o, ho, hd⟩ := I2.cell y c (hcl1 _ _ e)
      exact ⟨v, o, old _ _ ho, hd⟩
    · rcases List.mem_append.mp hp with hp | hp
      · obtain ⟨a1, a2, a3, a4, a5⟩ := I2.pin p hp
        exact ⟨old _ _ a1, a2, (below _ (Heap.lt_size a1)).1, hpf p hp, a5⟩
      · have ep : p = (s2.heap.objs.size, lobj [] 0) := by simpa using hp
        subst ep
        exact ⟨hacc, I2.hok.fresh (Nat.le_refl _), hDC, fun z => absurd (stl _ z) (Nat.lt_irrefl _), fun v z => nomatch z⟩
    · show (none :: σ).length = (x :: NB).length
      rw [List.length_cons, List.length_cons, I2.len, hlen]
  have fpo : ∀ {H' : Hp} {pl : List (Addr × Obj)}, (∀ b ∈ fp, H' b = none) → (∀ p ∈ pl, p.1 = s2.heap.objs.size) → ∀ b ∈ fp, FpOk (cxLCS X NB scope cl HH.objs.size x s2 H2 fp (X.pn ++ pins)) pl H' b := fun hn hpl b hb => by
    obtain ⟨_, a2, a3, a4, a5, a6⟩ := f2 b hb
    refine ⟨hn b hb, (below b (hfplt b hb)).1, fun z => ?_, .inl hb, fun y c e z => a5 y c (hcl1 _ _ e) z, fun p hp z => ?_⟩
    · rcases List.mem_cons.mp (I2.stkSub _ z) with q | q
      · exact a2 q
      · exact a3 q
    · rcases List.mem_append.mp hp with hp | hp
      · exact a6 p hp z
      · have := hpl p hp
        rw [this] at z
        exact (below b (hfplt b hb)).2 z.symm
  have hnd' : (x :: NB).Nodup := List.nodup_cons.mpr ⟨fun z => hN x z hx, hndB⟩
  have loop : ∀ t, codeAny (model X.prog X.w) X.A (.compLoop (.ListComp elt [⟨.Name x px, iter, ifs, 0⟩] scope pos) 0 (.ref it) (.ref s2.heap.objs.size) (compEnvC scope cl HH.objs.size X.env))
      (compPost (model X.prog X.w) X.A X.xe use QF (.ref s2.heap.objs.size) HH.objs.size) { s2 with heap := h₁, toks := t } := fun t => by
    refine compLoop_own (fun n s' => ∃ i ys its k H', Inv (cxLCS X NB scope cl HH.objs.size x s2 H2 fp (X.pn ++ pins)) [(s2.heap.objs.size, lobj its k)] (none :: σ) H' s' ∧ Vals ys its ∧ ys.length ≤ sizeLine ∧ tn i s'.heap ∧ (∀ b ∈ fp, H' b = none) ∧ W i n ys H') ?_ m0
      ⟨0, [], [], 0, H2, start t, .nil, Nat.zero_le _, T.keep _ _ _ st2 fun b _ o e => old b o e, fun b hb => (f2 b hb).1, w0⟩
    rintro n s3 ⟨i, ys, its, k, H3, I3, r3, z3, st3, fr3, w3⟩
    have hone : ∀ p ∈ [(s2.heap.objs.size, lobj its k)], p.1 = s2.heap.objs.size := fun p hp => by
      have : p = (s2.heap.objs.size, lobj its k) := by simpa using hp
      rw [this]
    rcases turn i n ys H3 w3 with ⟨stop, qn⟩ | ⟨go, zlt, NN, hNN, step⟩
    · refine thn (T.done (cxLCS X NB scope cl HH.objs.size x s2 H2 fp (X.pn ++ pins)) rfl rfl rfl hc i _ s3 (none :: σ) H3 (fun _ _ => False) I3 (fpo fr3 hone) st3 stop) fun r s4 ⟨hr, I4⟩ => ?_
      subst hr
      obtain ⟨m, hm, _⟩ := I4.loc
      have pD := I4.pin (s2.heap.objs.size, lobj its k) (List.mem_append_right _ List.mem_cons_self)
      have hCn : H3 HH.objs.size = none := I4.free
      refine hR s2.heap.objs.size HH.objs.size s4 (upd H3 s2.heap.objs.size (.lst ys)) m hm (by rw [hC]; exact Nat.le_trans I2.sz (Nat.le_succ _)) (Ne.symm (below _ locLt).1) (fun z => (below _ (fsLt _ z)).1 rfl) (fun y c e => (below _ (celt y c e)).1) (fun p hp => (below _ (Heap.lt_size (I2.pin p hp).1)).1) (by rw [upd_ne (Ne.symm hDC)]; exact hCn) (fun h' sb => ?_) (qn _ pD.2.1)
      have gD : h'.get? s2.heap.objs.size = some (lobj its k) := (sb.2 _ hDC).trans pD.1
      refine I2.call' (ch := fp) (I4.os) (Un.late I4.base (fun b q e => I2.hok.lt e) (Nat.le_refl _) fun b hb => sb.2 b (below b hb).1) (fun b u e => ?_) I4.bare (fun b hb => ?_)
      · by_cases hb : b = s2.heap.objs.size
        · subst hb
          rw [upd_same] at e
          cases e
          exact ⟨z3, its, k, r3, gD⟩
        · rw [upd_ne hb] at e
          refine (I4.hok b u e).stay (fun c v hcc q => (sb.2 c ?_).trans q) (fun c q => ?_) fun c xs q => ?_
          · rintro rfl
            have fr := I4.free
            rcases hcc with z | z
            · rw [← z] at e; rw [show (cxLCS X NB scope cl HH.objs.size x s2 H2 fp (X.pn ++ pins)).env.locals = HH.objs.size from rfl] at fr; rw [fr] at e; cases e
            · rw [show (cxLCS X NB scope cl HH.objs.size x s2 H2 fp (X.pn ++ pins)).env.locals = HH.objs.size from rfl] at fr; rw [fr] at z; cases z
          · rw [upd_ne (ne_of_none q pD.2.1)]; exact q
          · rw [upd_ne (ne_of_none q pD.2.1)]; exact q
      · obtain ⟨_, a2, _, a4, a5, a6⟩ := f2 b hb
        exact ⟨a4, a2, a5, a6⟩
    · refine thn (T.item (cxLCS X NB scope cl HH.objs.size x s2 H2 fp (X.pn ++ pins)) rfl rfl rfl hc i _ s3 (none :: σ) H3 (fun _ _ => False) I3 (fpo fr3 hone) st3 go) fun r s4 ⟨u, hr, h4⟩ => ?_
      subst hr
      refine thn h4 fun _ s5 ⟨v, H5, I5, r5, y5, st5, fr5⟩ => ?_
      have I5' := I5.pinned (fpo fr5 hone) (T.obj _ _ st5)
      refine wpAny_assign_Name (store_ok (X := cxLCS X NB scope cl HH.objs.size x s2 H2 fp (X.pn ++ pins)) (i := 0) I5' hnd' rfl (.inl (by show (relabel scope X.env).names.lookup x = _; rw [names_relabel, hx]; rfl)) r5 (fun s6 I6 => ?_) (.inr (by show (relabel scope X.env).names.lookup x = _; rw [names_relabel, hx]; rfl)))
      have I6' : Inv (cxLCS X NB scope cl HH.objs.size x s2 H2 fp (X.pn ++ pins)) ([(s2.heap.objs.size, lobj its k)] ++ pinsAt fp s5.heap) (some v :: σ) H5 s6 := I6
      refine thn (ht cl HH.objs.size s2 H2 fp (X.pn ++ pins) _ s6 _ H5 _ I6' (step v H5 y5)) fun c s7 ⟨H7, I7, q7⟩ => ?_
      -- what the block's state says of the iterator and the list
      have again : ∀ {H9 : Hp} {s9 : Shared} {σ9 : St} {zs : List V} {jts : List Value} {k' : Nat}, Inv (cxLCS X NB scope cl HH.objs.size x s2 H2 fp (X.pn ++ pins)) ([(s2.heap.objs.size, lobj jts k')] ++ pinsAt fp s5.heap) (some v :: σ) H9 s9 → Vals zs jts → zs.length ≤ sizeLine → NN zs H9 →
          ∃ m, m < n ∧ ∃ i ys its k H', Inv (cxLCS X NB scope cl HH.objs.size x s2 H2 fp (X.pn ++ pins)) [(s2.heap.objs.size, lobj its k)] (none :: σ) H' s9 ∧ Vals ys its ∧ ys.length ≤ sizeLine ∧ tn i s9.heap ∧ (∀ b ∈ fp, H' b = none) ∧ W i m ys H' := fun {H9 s9 σ9 zs jts k'} I9 r9 z9 n9 => by
        obtain ⟨m', hm, w9⟩ := hNN zs H9 n9
        refine ⟨m', hm, i + 1, zs, jts, k', H9, (I9.unpinned.weak (σ' := none :: σ) rfl fun j v' e => ?_), r9, z9, T.keep _ _ _ st5 fun b hb o e => (I9.pin (b, o) (List.mem_append_right _ (List.mem_append_right _ (mem_pinsAt hb e)))).1, fun b hb => ?_, w9⟩
        · cases j with
          | zero => cases e
          | succ j => exact e
        · obtain ⟨o, e, d⟩ := T.obj _ _ st5 b hb
          exact (I9.pin (b, o) (List.mem_append_right _ (List.mem_append_right _ (mem_pinsAt hb e)))).2.1
      cases c with
      | false =>
        simp only [Bool.false_eq_true, if_false] at q7 ⊢
        exact again (σ9 := []) I7 r3 z3 q7
      | true =>
        simp only [if_true] at q7 ⊢
        refine thn (he cl HH.objs.size s2 H2 fp (X.pn ++ pins) _ s7 _ H7 _ I7 q7) fun u8 s8 ⟨y, H8, I8, r8, q8⟩ => ?_
        have pD := I8.pin (s2.heap.objs.size, lobj its k) (List.mem_append_right _ (List.mem_append_left _ List.mem_cons_self))
        refine append_at (hsz := by rw [List.size_toArray, ← r3.length]; exact z3) pD.1 fun h9 sb9 hD9 => ?_
        have e9 : ({ cls := .type "list", data := .seq (its.toArray.push u8) (k + 1) } : Obj) = lobj (its ++ [u8]) (k + 1) := by
          show _ = ({ cls := .type "list", data := .seq (its ++ [u8]).toArray (k + 1) } : Obj)
          rw [List.push_toArray]
        rw [e9] at hD9
        have Ia : Inv (cxLCS X NB scope cl HH.objs.size x s2 H2 fp (X.pn ++ pins)) (pinsAt fp s5.heap) (some v :: σ) H8 s8 := I8.pins_of fun p hp => I8.pin p (List.mem_append_right _ (List.mem_append_right _ hp))
        have nfp : ∀ p ∈ pinsAt fp s5.heap, p.1 ≠ s2.heap.objs.size := fun p hp => (below _ (hfplt _ (of_pinsAt hp).1)).2
        have Ib : Inv (cxLCS X NB scope cl HH.objs.size x s2 H2 fp (X.pn ++ pins)) (pinsAt fp s5.heap) (some v :: σ) H8 { s8 with heap := h9, toks := s8.toks } := by
          refine Ia.turned (it := s2.heap.objs.size) (fun b o hb e => (sb9.2 b hb).trans e) pD.2.1 pD.2.2.1 (.inr (Nat.le_refl _)) (fun y' c e z => absurd (celt _ _ (hcl1 _ _ e)) (by rw [z]; exact Nat.lt_irrefl _)) fun p hp => ?_
          rcases List.mem_append.mp hp with hp | hp
          · exact (below _ (Heap.lt_size (I2.pin p hp).1)).2
          · exact nfp p hp
        refine again (σ9 := []) (zs := ys ++ [y]) (jts := its ++ [u8]) (k' := k + 1) (Ib.pins_of fun p hp => ?_) (r3.append (.cons r8 .nil)) (by rw [List.length_append]; exact zlt) q8
        rcases List.mem_append.mp hp with hp | hp
        · have ep : p = (s2.heap.objs.size, lobj (its ++ [u8]) (k + 1)) := by simpa using hp
          subst ep
          exact ⟨hD9, pD.2.1, pD.2.2.1, pD.2.2.2.1, fun v z => nomatch z⟩
        · exact Ib.pin p (List.mem_append_right _ hp)
  exact codeAny_compStart_list (loop _) (T.self _ 0 _ _ _ (T.keep _ _ _ st2 fun b _ o e => old b o e) (loop _))
theorem ps_setLC {X : Cx} (NB : List Str) {i : Nat} {x y : Str} {px py : Pos} {iter elt : Expr} {ifs : List Expr} {scope : Scope} {pos spos : Pos} {wi : TI} {tc : TT} {te : TE} (hc : X.calm = true) (hN : X.N.Nodup) (hi' : X.N[i]? = some y) (hy : X.env.scope.names.lookup y = some .local) (hi : PI X (.Name x px) iter wi)
    (ht : ∀ cl C s0 H0 fp pn, PTs (cxLCS X NB scope cl C x s0 H0 fp pn) ifs tc) (he : ∀ cl C s0 H0 fp pn, PE (cxLCS X NB scope cl C x s0 H0 fp pn) elt te) (hok : lcOkS X.N NB scope.names X.env.scope.names x = true) (hndB : NB.Nodup := by decide +kernel) (hkind : scope.kind = .function := by rfl)
    (hs : ∀ x, foldedSetIterable iter X.env x = pure x := by intro _; rfl) (hsw : swapsWith (.ListComp elt [⟨.Name x px, iter, ifs, 0⟩] scope pos) (some (.Name y py)) spos.line X.env = pure true := by rfl) :
    PS X (.Assign [.Name y py] (.ListComp elt [⟨.Name x px, iter, ifs, 0⟩] scope pos) spos) (tAsg (tLC wi tc te) (gName i)) := by
  unfold lcOkS lcOk at hok
  rw [Bool.and_eq_true, Bool.and_eq_true, Bool.and_eq_true, Bool.and_eq_true, List.all_eq_true, List.all_eq_true, List.all_eq_true, beq_iff_eq] at hok
  obtain ⟨⟨hl, hz⟩, h1, h2, h3⟩ := hok
  intro pins s σ H D I h
  rw [exec_Assign_Name_used _ _ _ _ hsw]
  refine wpAny_bind (wpAny_standAt (wpAny_bind ?_))
  show wpAny _ _ (do let _ ← comprehension (.ListComp elt [⟨.Name x px, iter, ifs, 0⟩] scope pos) scope X.env _ (newList []) false (eval iter X.env) (some (assign (.Name y py) X.env))) _ _ s
  refine wpAny_bind (wpAny_mono (lc_core NB (some (assign (.Name y py) X.env)) (fun _ s' => SP X pins D .next s') hc hi ht he hl (fun j z e => ?_) hndB (fun z hz => ?_) (by simpa using h2) (fun z hz e => ?_) (fun z hz => ?_) (fun z hz e => ?_) hkind hs I h fun Dd C s4 H4 m hm hsz hCL hCf hCc hCp hCn hInv hq => ?_)
    (fun _ s' hq => wpAny_pure (wpAny_pure hq)) fun _ _ e => e)
  · have hj : j < NB.length := (List.getElem?_eq_some_iff.mp e).1
    have hj' : j < X.N.length := by omega
    have hm : (z, X.N[j]) ∈ NB.zip X.N := by
      have : (NB.zip X.N)[j]? = some (z, X.N[j]) := by
        rw [List.getElem?_zip_eq_some]
        exact ⟨e, List.getElem?_eq_getElem hj'⟩
      exact List.mem_of_getElem? this
    have := hz _ hm
    rw [Bool.or_eq_true, beq_iff_eq, beq_iff_eq] at this
    rcases this with h | h
    · left
      rw [List.getElem?_eq_getElem hj']
      exact congrArg some (show X.N[j] = z from h.symm)
    · exact .inr h
  · simpa using h1 z hz
  · have := h3 z hz
    rw [e] at this
    simp at this
    exact this
  · have := h3 z hz
    intro z
    rw [z] at this
    simp at this
  · have := h3 z hz
    rw [e] at this
    simp at this
    exact this
  · have I4 : Inv X pins σ H4 s4 := hInv s4.heap ⟨rfl, fun _ _ => rfl⟩
    obtain ⟨oC, es, ep, hoC, hd, r⟩ := hm
    have I4' : Inv X (pins ++ [(C, oC)]) σ H4 s4 := I4.pins_of fun p hp => by
      rcases List.mem_append.mp hp with hp | hp
      · exact I4.pin p (List.mem_append_right _ hp)
      · have : p = (C, oC) := by simpa using hp
        subst this
        exact ⟨hoC, hCn, hCL, hCf, fun v z => by rw [hd] at z; cases z⟩
    show wpAny _ _ (assign (.Name y py) X.env (.ref Dd)) _ _ _
    refine wpAny_assign_Name (store_ok (v := .ref Dd) I4' hN hi' (.inl hy) rfl (fun s5 I5 => ?_) (.inr hy))
    have pC := I5.pin (C, oC) (List.mem_append_right _ (List.mem_append_right _ List.mem_cons_self))
    refine ⟨m, ⟨oC, es, ep, pC.1, hd, r⟩, fun h' sb => ⟨_, H4, ?_, hq⟩⟩
    exact (I5.pins_of fun p hp => I5.pin p (List.mem_append_right _ (List.mem_append_left _ hp))).turned (it := C) (fun b o hb e => (sb.2 b hb).trans e) hCn hCL (.inr hsz) (fun y' c e z => hCc y' c e z) hCp
end L2
set_option Elab.async false
set_option maxHeartbeats 4000000
namespace L2
open PySem PySem.Spec PyProof.Rows
/-- the block's context: the loop's names first, the names around it behind -/
def cxLCs (X : Cx) (scope : Scope) (cl : List (Str × Addr)) (C : Addr) (xs : List Str) (s0 : Shared) (H0 : Hp) (fp : List Addr) (pn : List (Addr × Obj)) : Cx :=
  { X with N := xs ++ X.N, s₀ := s0, H₀ := H0, env := compEnvC scope cl C X.env, outer := X.stack, stack := X.stack, ex := fp, fn := fun _ => false, pn := pn, xe := fun _ _ => False }
/-- no value yet for the n names -/
def blank (n : Nat) (σ : St) : St := List.replicate n none ++ σ
theorem blank_get {n i : Nat} {σ : St} {v : V} (h : (blank n σ)[i]? = some (some v)) : n ≤ i ∧ σ[i - n]? = some (some v) := by
  unfold blank at h
  by_cases c : i < n
  · rw [List.getElem?_append_left (by rw [List.length_replicate]; exact c), List.getElem?_replicate, if_pos c] at h
    cases h
  · rw [List.getElem?_append_right (by rw [List.length_replicate]; omega), List.length_replicate] at h
    exact ⟨by omega, h⟩
/-- what a comprehension with the readings g, tc, te wants of the iterator J -/
def LCwT (n : Nat) (J : It) (g : TG) (tc : TT) (te : TE) (σ : St) (H1 : Hp) (Q : VK) : Prop := ∃ W : Nat → Nat → List V → Hp → Prop, (∃ m, W 0 m [] H1) ∧ ∀ i m ys H, W i m ys H →
  (J.stop i H ∧ ∀ p, H p = none → Q (.ref p) (upd H p (.lst ys))) ∨
  (J.go i H ∧ ys.length < sizeLine ∧ ∃ N : List V → Hp → Prop, (∀ zs H', N zs H' → ∃ m', m' < m ∧ W (i + 1) m' zs H') ∧ ∀ x H', J.yld i H x H' → g x (blank n σ) H' fun σ2 H1 => (∃ vs : List V, vs.length = n ∧ σ2 = vs.map some ++ σ) ∧ tc σ2 H1 fun c H2 =>
    if c = true then te σ2 H2 fun y H3 => N (ys ++ [y]) H3 else N ys H2)
def tLCT (n : Nat) (wi : TI) (g : TG) (tc : TT) (te : TE) : TE := fun σ H Q => wi σ H fun J H1 => LCwT n J g tc te σ H1 Q
theorem pe_lcT {X : Cx} {xs : List Str} {tg : Expr} {g : TG} {iter elt : Expr} {ifs : List Expr} {scope : Scope} {pos : Pos} {wi : TI} {tc : TT} {te : TE} (hc : X.calm = true) (hnd : X.N.Nodup) (hi : PI X tg iter wi) (hg : ∀ cl C s0 H0 fp pn, PG (cxLCs X scope cl C xs s0 H0 fp pn) tg g)
    (ht : ∀ cl C s0 H0 fp pn, PTs (cxLCs X scope cl C xs s0 H0 fp pn) ifs tc) (he : ∀ cl C s0 H0 fp pn, PE (cxLCs X scope cl C xs s0 H0 fp pn) elt te)
    (hN : ∀ y ∈ X.N, scope.names.lookup y ≠ some .local) 
    (hfree : ∀ y ∈ scope.names, y.2 = .free → X.env.kindOf y.1 = some .cell) (hcell : ∀ y ∈ scope.names, y.2 ≠ .cell)
    (hnames : ∀ y ∈ scope.names, y.2 = .local → scope.names.lookup y.1 = some .local) (hkind : scope.kind = .function := by rfl)
    (hs : ∀ x, foldedSetIterable iter X.env x = pure x := by intro _; rfl) : PE X (.ListComp elt [⟨tg, iter, ifs, 0⟩] scope pos) (tLCT xs.length wi g tc te) := by
  intro pins s σ H Q I h
  obtain ⟨cl, hclos, hcl1, hcl2⟩ := closureFor_ok (env := X.env) (scope := scope) fun n hn => I.ok.has n (.inl (hfree (n, .free) hn rfl))
  rw [eval_ListComp]
  refine wpAny_comprehension_free (use := none) rfl hs hclos hkind hnames (thn (hi pins s σ H _ I h) fun xv s1 h1 => thn h1 fun itv s2 h2 => ?_)
  obtain ⟨it, fp, tn, J, H2, e, I2, T, st2, f2, W, ⟨m0, w0⟩, turn⟩ := h2
  subst e
  refine wpAny_newObj_type (wpAny_newFunctionEnv hcell (by intro y hy; simp at hy) (fun h₁ hns₁ hsb₁ => ?_) hkind)
  dsimp only at hns₁ hsb₁ ⊢
  generalize hH2 : s2.heap.push { cls := .type "list", dict := none, data := .seq ([] : List Value).toArray } = HH at hns₁ hsb₁ ⊢
  have hC : HH.objs.size = s2.heap.objs.size + 1 := by rw [← hH2, Heap.size_push]
  have hDC : s2.heap.objs.size ≠ HH.objs.size := by rw [hC]; exact Nat.ne_of_lt (Nat.lt_succ_self _)
  have below : ∀ b, b < s2.heap.objs.size → b ≠ HH.objs.size ∧ b ≠ s2.heap.objs.size := fun b hb => ⟨by rw [hC]; exact Nat.ne_of_lt (Nat.lt_succ_of_lt hb), Nat.ne_of_lt hb⟩
  have old : ∀ b o, s2.heap.get? b = some o → h₁.get? b = some o := fun b o e => hsb₁.extBut b o (below b (Heap.lt_size e)).1 (Heap.get?_push_of_some _ (hH2 ▸ Heap.get?_push_of_some _ e))
  have hacc : h₁.get? s2.heap.objs.size = some (lobj [] 0) := hsb₁.extBut _ _ hDC (Heap.get?_push_of_some _ (hH2 ▸ Heap.get?_push_size _ rfl))
  have hfpo := T.obj 0 _ st2
  have hfplt : ∀ b ∈ fp, b < s2.heap.objs.size := fun b hb => by
    obtain ⟨o, e, _⟩ := hfpo b hb
    exact Heap.lt_size e
  have stl : ∀ b ∈ frs X.stack, b < s2.heap.objs.size := fun b hb => by
    obtain ⟨_, o, ho, _⟩ := I2.stack.mem hb
    exact Heap.lt_size ho
  have celt : ∀ y c, X.env.cells.lookup y = some c → c < s2.heap.objs.size := fun y c e => by
    obtain ⟨v, q⟩ := I2.cell y c e
    exact q.lt
  have hpf : ∀ p ∈ X.pn ++ pins, p.1 ∉ frs X.stack := fun p hp z => by
    obtain ⟨_, _, n1, n2, _⟩ := I2.pin p hp
    rcases List.mem_cons.mp (I2.stkSub _ z) with q | q
    · exact n1 q
    · exact n2 q
  -- the block's context
  have okX : (cxLCs X scope cl HH.objs.size xs s2 H2 fp (X.pn ++ pins)).Ok := by
    refine ⟨I2.ok.mod, hkind, I2.ok.glob, I2.ok.blt, ?_, fun y z c e1 e2 => I2.ok.inj y z c (hcl1 _ _ e1) (hcl1 _ _ e2), fun y hy => ?_, fun y c hf => (nomatch hf), I2.ok.hd, I2.ok.frames, .inl rfl, fun b hb => ?_, I2.bs, ?_, fun b o e hb => ?_, fun b hb => ?_, I2.stack, I2.stkFree⟩
    · show s2.heap.objs.size ≤ HH.objs.size
      rw [hC]; exact Nat.le_succ _
    · have hy' : (relabel scope X.env).names.lookup y = some .cell ∨ (relabel scope X.env).names.lookup y = some .free := hy
      rw [names_relabel] at hy'
      have : scope.names.lookup y = some .free := by
        cases q : scope.names.lookup y with
        | none => rw [q] at hy'; rcases hy' with z | z <;> cases z
        | some k =>
          have hm := PySem.mem_of_lookup q
          rw [q] at hy'
          have hk : gRel X.env y k = .cell ∨ gRel X.env y k = .free := by simpa using hy'
          unfold gRel at hk
          split at hk
          · rename_i c
            simp at c
            rw [c.1.1]
          · rcases hk with z | z
            · exact absurd z (hcell _ hm)
            · rw [z]
      exact hcl2 y (PySem.mem_of_lookup this)
    · refine ⟨?_, fun y c e z => (f2 b hb).2.2.2.2.1 y c (hcl1 _ _ e) z⟩
      exact (below b (hfplt b hb)).1
    · exact Nat.le_trans I2.ok.bsz I2.sz
    · have := (I2.bs b o e).2
      rcases (f2 b hb).2.2.2.1 with z | z
      · exact I2.ok.noex b o e z
      · exact absurd (Nat.lt_of_lt_of_le (Heap.lt_size (I2.ok.bs b o e).1) z) (Nat.lt_irrefl _)
    · intro z
      rcases List.mem_cons.mp (I2.stkSub _ z) with q | q
      · exact (f2 b hb).2.1 q
      · exact (f2 b hb).2.2.1 q
  have start : ∀ t, Inv (cxLCs X scope cl HH.objs.size xs s2 H2 fp (X.pn ++ pins)) [(s2.heap.objs.size, lobj [] 0)] (blank xs.length σ) H2 { s2 with heap := h₁, toks := t } := fun t => by
    refine ⟨okX, rfl, I2.bare, Un.kept old, ⟨_, hns₁, fun i y v e1 e2 e3 => ?_⟩, fun y c e => ?_, I2.hok.fresh (by show s2.heap.objs.size ≤ HH.objs.size; rw [hC]; exact Nat.le_succ _), fun y c e => I2.freeC y c (hcl1 _ _ e), fun p hp => ?_, I2.hok.kept old, ?_⟩
    · obtain ⟨hni, e2'⟩ := blank_get e2
      have e1' : X.N[i - xs.length]? = some y := by
        rw [← List.getElem?_append_right hni]; exact e1
      · generalize i - xs.length = j at e1' e2'
        have hyN : y ∈ X.N := List.mem_of_getElem? e1'
        have e3' : Vis (relabel scope X.env) y := e3
        unfold Vis at e3'
        rw [names_relabel] at e3'
        cases q : scope.names.lookup y with
        | none => rw [q] at e3'; rcases e3' with z | z | z <;> cases z
        | some k =>
          have hm := PySem.mem_of_lookup q
          rw [q] at e3'
          have kf : k = .free := by
            have hk : gRel X.env y k = .local ∨ gRel X.env y k = .cell ∨ gRel X.env y k = .free := by simpa using e3'
            unfold gRel at hk
            split at hk
            · rename_i c; simp at c; exact c.1.1
            · rcases hk with z | z | z
              · exact absurd (q.trans (congrArg some z)) (hN y hyN)
              · exact absurd z (hcell _ hm)
              · exact z
          subst kf
          have kc := hfree _ hm rfl
          obtain ⟨m, hn, hl⟩ := I2.loc
          obtain ⟨u, ru, lk⟩ := hl j y v e1' e2' (.inr (.inl kc))
          refine ⟨u, ru, ?_⟩
          rcases lk with ⟨z, _⟩ | ⟨_, c, ec, hcell'⟩
          · rw [kc] at z; cases z
          · obtain ⟨c', ec'⟩ := hcl2 y hm
            have : c' = c := by have z := hcl1 _ _ ec'; rw [ec] at z; exact (Option.some.inj z).symm
            subst this
            refine .inr ⟨.inl ?_, c', ec', ?_⟩
            · show (relabel scope X.env).names.lookup y = some .cell
              rw [names_relabel, q]
              show some (gRel X.env y .free) = _
              unfold gRel
              rw [I2.ok.kind, kc]; rfl
            · obtain ⟨o, ho, hd⟩ := hcell'
              exact ⟨o, old _ _ ho, hd⟩
    · obtain ⟨v, o, ho, hd⟩ := I2.cell y c (hcl1 _ _ e)
      exact ⟨v, o, old _ _ ho, hd⟩
    · rcases List.mem_append.mp hp with hp | hp
      · obtain ⟨a1, a2, a3, a4, a5⟩ := I2.pin p hp
        exact ⟨old _ _ a1, a2, (below _ (Heap.lt_size a1)).1, hpf p hp, a5⟩
      · have ep : p = (s2.heap.objs.size, lobj [] 0) := by simpa using hp
        subst ep
        exact ⟨hacc, I2.hok.fresh (Nat.le_refl _), hDC, fun z => absurd (stl _ z) (Nat.lt_irrefl _), fun v z => nomatch z⟩
    · show (blank xs.length σ).length = (xs ++ X.N).length
      rw [blank, List.length_append, List.length_append, List.length_replicate, I2.len]
  have fpo : ∀ {H' : Hp} {pl : List (Addr × Obj)}, (∀ b ∈ fp, H' b = none) → (∀ p ∈ pl, p.1 = s2.heap.objs.size) → ∀ b ∈ fp, FpOk (cxLCs X scope cl HH.objs.size xs s2 H2 fp (X.pn ++ pins)) pl H' b := fun hn hpl b hb => by
    obtain ⟨_, a2, a3, a4, a5, a6⟩ := f2 b hb
    refine ⟨hn b hb, (below b (hfplt b hb)).1, fun z => ?_, .inl hb, fun y c e z => a5 y c (hcl1 _ _ e) z, fun p hp z => ?_⟩
    · rcases List.mem_cons.mp (I2.stkSub _ z) with q | q
      · exact a2 q
      · exact a3 q
    · rcases List.mem_append.mp hp with hp | hp
      · exact a6 p hp z
      · have := hpl p hp
        rw [this] at z
        exact (below b (hfplt b hb)).2 z.symm
  have loop : ∀ t, codeAny (model X.prog X.w) X.A (.compLoop (.ListComp elt [⟨tg, iter, ifs, 0⟩] scope pos) 0 (.ref it) (.ref s2.heap.objs.size) (compEnvC scope cl HH.objs.size X.env))
      (compPost (model X.prog X.w) X.A X.xe none (EP X pins σ Q) (.ref s2.heap.objs.size) HH.objs.size) { s2 with heap := h₁, toks := t } := fun t => by
    refine compLoop_own (fun n s' => ∃ i ys its k H', Inv (cxLCs X scope cl HH.objs.size xs s2 H2 fp (X.pn ++ pins)) [(s2.heap.objs.size, lobj its k)] (blank xs.length σ) H' s' ∧ Vals ys its ∧ ys.length ≤ sizeLine ∧ tn i s'.heap ∧ (∀ b ∈ fp, H' b = none) ∧ W i n ys H') ?_ m0
      ⟨0, [], [], 0, H2, start t, .nil, Nat.zero_le _, T.keep _ _ _ st2 fun b _ o e => old b o e, fun b hb => (f2 b hb).1, w0⟩
    rintro n s3 ⟨i, ys, its, k, H3, I3, r3, z3, st3, fr3, w3⟩
    have hone : ∀ p ∈ [(s2.heap.objs.size, lobj its k)], p.1 = s2.heap.objs.size := fun p hp => by
      have : p = (s2.heap.objs.size, lobj its k) := by simpa using hp
      rw [this]
    rcases turn i n ys H3 w3 with ⟨stop, qn⟩ | ⟨go, zlt, NN, hNN, step⟩
    · refine thn (T.done (cxLCs X scope cl HH.objs.size xs s2 H2 fp (X.pn ++ pins)) rfl rfl rfl hc i _ s3 (blank xs.length σ) H3 (fun _ _ => False) I3 (fpo fr3 hone) st3 stop) fun r s4 ⟨hr, I4⟩ => ?_
      subst hr
      obtain ⟨m, hm, _⟩ := I4.loc
      refine ⟨m, hm, fun h' sb => ?_⟩
      have pD := I4.pin (s2.heap.objs.size, lobj its k) (List.mem_append_right _ List.mem_cons_self)
      have gD : h'.get? s2.heap.objs.size = some (lobj its k) := (sb.2 _ hDC).trans pD.1
      refine ⟨.ref s2.heap.objs.size, upd H3 s2.heap.objs.size (.lst ys), I2.call' (ch := fp) (I4.os) (Un.late I4.base (fun b q e => I2.hok.lt e) (Nat.le_refl _) fun b hb => sb.2 b (below b hb).1) (fun b u e => ?_) I4.bare (fun b hb => ?_), rfl, qn _ pD.2.1⟩
      · by_cases hb : b = s2.heap.objs.size
        · subst hb
          rw [upd_same] at e
          cases e
          exact ⟨z3, its, k, r3, gD⟩
        · rw [upd_ne hb] at e
          refine (I4.hok b u e).stay (fun c v hcc q => (sb.2 c ?_).trans q) (fun c q => ?_) fun c xs q => ?_
          · rintro rfl
            have fr := I4.free
            rcases hcc with z | z
            · rw [← z] at e; rw [show (cxLCs X scope cl HH.objs.size xs s2 H2 fp (X.pn ++ pins)).env.locals = HH.objs.size from rfl] at fr; rw [fr] at e; cases e
            · rw [show (cxLCs X scope cl HH.objs.size xs s2 H2 fp (X.pn ++ pins)).env.locals = HH.objs.size from rfl] at fr; rw [fr] at z; cases z
          · rw [upd_ne (ne_of_none q pD.2.1)]; exact q
          · rw [upd_ne (ne_of_none q pD.2.1)]; exact q
      · obtain ⟨_, a2, _, a4, a5, a6⟩ := f2 b hb
        exact ⟨a4, a2, a5, a6⟩
    · refine thn (T.item (cxLCs X scope cl HH.objs.size xs s2 H2 fp (X.pn ++ pins)) rfl rfl rfl hc i _ s3 (blank xs.length σ) H3 (fun _ _ => False) I3 (fpo fr3 hone) st3 go) fun r s4 ⟨u, hr, h4⟩ => ?_
      subst hr
      refine thn h4 fun _ s5 ⟨v, H5, I5, r5, y5, st5, fr5⟩ => ?_
      have I5' := I5.pinned (fpo fr5 hone) (T.obj _ _ st5)
      refine thn (hg cl HH.objs.size s2 H2 fp (X.pn ++ pins) _ s5 _ H5 v u _ I5' r5 (step v H5 y5)) fun _ s6 ⟨σ6, H6, I6', ⟨vs, hvs, e6⟩, step6⟩ => ?_
      subst e6
      refine thn (ht cl HH.objs.size s2 H2 fp (X.pn ++ pins) _ s6 _ H6 _ I6' step6) fun c s7 ⟨H7, I7, q7⟩ => ?_
      -- what the block's state says of the iterator and the list
      have again : ∀ {H9 : Hp} {s9 : Shared} {σ9 : St} {zs : List V} {jts : List Value} {k' : Nat}, Inv (cxLCs X scope cl HH.objs.size xs s2 H2 fp (X.pn ++ pins)) ([(s2.heap.objs.size, lobj jts k')] ++ pinsAt fp s5.heap) (vs.map some ++ σ) H9 s9 → Vals zs jts → zs.length ≤ sizeLine → NN zs H9 →
          ∃ m, m < n ∧ ∃ i ys its k H', Inv (cxLCs X scope cl HH.objs.size xs s2 H2 fp (X.pn ++ pins)) [(s2.heap.objs.size, lobj its k)] (blank xs.length σ) H' s9 ∧ Vals ys its ∧ ys.length ≤ sizeLine ∧ tn i s9.heap ∧ (∀ b ∈ fp, H' b = none) ∧ W i m ys H' := fun {H9 s9 σ9 zs jts k'} I9 r9 z9 n9 => by
        obtain ⟨m', hm, w9⟩ := hNN zs H9 n9
        refine ⟨m', hm, i + 1, zs, jts, k', H9, (I9.unpinned.weak (σ' := blank xs.length σ) (by rw [blank, List.length_append, List.length_append, List.length_replicate, List.length_map, hvs]) fun j v' e => ?_), r9, z9, T.keep _ _ _ st5 fun b hb o e => (I9.pin (b, o) (List.mem_append_right _ (List.mem_append_right _ (mem_pinsAt hb e)))).1, fun b hb => ?_, w9⟩
        · obtain ⟨hni, e'⟩ := blank_get e
          rw [List.getElem?_append_right (by rw [List.length_map, hvs]; exact hni), List.length_map, hvs]
          exact e'
        · obtain ⟨o, e, d⟩ := T.obj _ _ st5 b hb
          exact (I9.pin (b, o) (List.mem_append_right _ (List.mem_append_right _ (mem_pinsAt hb e)))).2.1
      cases c with
      | false =>
        simp only [Bool.false_eq_true, if_false] at q7 ⊢
        exact again (σ9 := []) I7 r3 z3 q7
      | true =>
        simp only [if_true] at q7 ⊢
        refine thn (he cl HH.objs.size s2 H2 fp (X.pn ++ pins) _ s7 _ H7 _ I7 q7) fun u8 s8 ⟨y, H8, I8, r8, q8⟩ => ?_
        have pD := I8.pin (s2.heap.objs.size, lobj its k) (List.mem_append_right _ (List.mem_append_left _ List.mem_cons_self))
        refine append_at (hsz := by rw [List.size_toArray, ← r3.length]; exact z3) pD.1 fun h9 sb9 hD9 => ?_
        have e9 : ({ cls := .type "list", data := .seq (its.toArray.push u8) (k + 1) } : Obj) = lobj (its ++ [u8]) (k + 1) := by
          show _ = ({ cls := .type "list", data := .seq (its ++ [u8]).toArray (k + 1) } : Obj)
          rw [List.push_toArray]
        rw [e9] at hD9
        have Ia : Inv (cxLCs X scope cl HH.objs.size xs s2 H2 fp (X.pn ++ pins)) (pinsAt fp s5.heap) (vs.map some ++ σ) H8 s8 := I8.pins_of fun p hp => I8.pin p (List.mem_append_right _ (List.mem_append_right _ hp))
        have nfp : ∀ p ∈ pinsAt fp s5.heap, p.1 ≠ s2.heap.objs.size := fun p hp => (below _ (hfplt _ (of_pinsAt hp).1)).2
        have Ib : Inv (cxLCs X scope cl HH.objs.size xs s2 H2 fp (X.pn ++ pins)) (pinsAt fp s5.heap) (vs.map some ++ σ) H8 { s8 with heap := h9, toks := s8.toks } := by
          refine Ia.turned (it := s2.heap.objs.size) (fun b o hb e => (sb9.2 b hb).trans e) pD.2.1 pD.2.2.1 (.inr (Nat.le_refl _)) (fun y' c e z => absurd (celt _ _ (hcl1 _ _ e)) (by rw [z]; exact Nat.lt_irrefl _)) fun p hp => ?_
          rcases List.mem_append.mp hp with hp | hp
          · exact (below _ (Heap.lt_size (I2.pin p hp).1)).2
          · exact nfp p hp
        refine again (σ9 := []) (zs := ys ++ [y]) (jts := its ++ [u8]) (k' := k + 1) (Ib.pins_of fun p hp => ?_) (r3.append (.cons r8 .nil)) (by rw [List.length_append]; exact zlt) q8
        rcases List.mem_append.mp hp with hp | hp
        · have ep : p = (s2.heap.objs.size, lobj (its ++ [u8]) (k + 1)) := by simpa using hp
          subst ep
          exact ⟨hD9, pD.2.1, pD.2.2.1, pD.2.2.2.1, fun v z => nomatch z⟩
        · exact Ib.pin p (List.mem_append_right _ hp)
  exact codeAny_compStart_list (loop _) (T.self _ 0 _ _ _ (T.keep _ _ _ st2 fun b _ o e => old b o e) (loop _))
def lcOkT (N : List Str) (names outer : List (Str × NameKind)) : Bool :=
  N.all (fun y => names.lookup y != some .local) && (names.all fun y => (y.2 != .free || outer.lookup y.1 == some .cell) && (y.2 != .cell && (y.2 != .local || names.lookup y.1 == some .local)))
theorem pe_lcTB {X : Cx} (xs : List Str) {tg : Expr} {g : TG} {iter elt : Expr} {ifs : List Expr} {scope : Scope} {pos : Pos} {wi : TI} {tc : TT} {te : TE} (hc : X.calm = true) (hnd : X.N.Nodup) (hi : PI X tg iter wi) (hg : ∀ cl C s0 H0 fp pn, PG (cxLCs X scope cl C xs s0 H0 fp pn) tg g)
    (ht : ∀ cl C s0 H0 fp pn, PTs (cxLCs X scope cl C xs s0 H0 fp pn) ifs tc) (he : ∀ cl C s0 H0 fp pn, PE (cxLCs X scope cl C xs s0 H0 fp pn) elt te) (hok : lcOkT X.N scope.names X.env.scope.names = true) (hkind : scope.kind = .function := by rfl)
    (hs : ∀ x, foldedSetIterable iter X.env x = pure x := by intro _; rfl) : PE X (.ListComp elt [⟨tg, iter, ifs, 0⟩] scope pos) (tLCT xs.length wi g tc te) := by
  unfold lcOkT at hok
  rw [Bool.and_eq_true, List.all_eq_true, List.all_eq_true] at hok
  obtain ⟨h1, h3⟩ := hok
  refine pe_lcT hc hnd hi hg ht he (fun y hy => ?_) (fun y hy e => ?_) (fun y hy => ?_) (fun y hy e => ?_) hkind hs
  · simpa using h1 y hy
  · have := h3 y hy
    rw [e] at this
    simp at this
    exact this
  · have := h3 y hy
    intro e
    rw [e] at this
    simp at this
  · have := h3 y hy
    rw [e] at this
    simpa using this
/-- the two names of the block -/
theorem pg_pair {X : Cx} {scope : Scope} {cl : List (Str × Addr)} {C : Addr} {x y : Str} {s0 : Shared} {H0 : Hp} {fp : List Addr} {pn : List (Addr × Obj)} {px py pos : Pos} {k : Nat} (hnd : (x :: y :: X.N).Nodup) (hc : X.calm = true) (hx : scope.names.lookup x = some .local) (hy : scope.names.lookup y = some .local) :
    PG (cxLCs X scope cl C [x, y] s0 H0 fp pn) (.Tuple [.Name x px, .Name y py] k pos) (gTup X.K 2 (gCons (gName 0) (gCons (gName 1) gNil))) := by
  have lx : (cxLCs X scope cl C [x, y] s0 H0 fp pn).env.scope.names.lookup x = some .local := by
    show (relabel scope X.env).names.lookup x = _
    rw [names_relabel, hx]; rfl
  have ly : (cxLCs X scope cl C [x, y] s0 H0 fp pn).env.scope.names.lookup y = some .local := by
    show (relabel scope X.env).names.lookup y = _
    rw [names_relabel, hy]; rfl
  exact pg_tup (X := cxLCs X scope cl C [x, y] s0 H0 fp pn) hc (pgs_cons (pg_name (i := 0) hnd rfl (.inl lx) (.inr lx)) (pgs_cons (pg_name (i := 1) hnd rfl (.inl ly) (.inr ly)) pgs_nil))
/-- over enumerate(xs, start=c), the pair unpacked -/
theorem lc_enum {K : PySem.W.Frag} {a : Addr} {xs : List V} {c : Int} {g : TG} {tc : TT} {te : TE} {n : Nat} {σ : St} {H : Hp} {Q : VK} (Pv : Nat → List V → Hp → Prop) (h0 : Pv 0 [] H) (hz : xs.length ≤ 1000) (hl : ∀ i ys H, Pv i ys H → ys.length ≤ i) (hk : ∀ i ys H, i ≤ xs.length → Pv i ys H → SqL K H a xs)
    (hs : ∀ i x ys H p, xs[i]? = some x → Pv i ys H → H p = none → g (.ref p) (blank n σ) (upd H p (.tup [.int (c + (i : Nat)), x])) fun σ2 H1 => (∃ vs : List V, vs.length = n ∧ σ2 = vs.map some ++ σ) ∧ tc σ2 H1 fun c H2 => if c = true then te σ2 H2 fun y H3 => Pv (i + 1) (ys ++ [y]) H3 else Pv (i + 1) ys H2)
    (hd : ∀ ys H, Pv xs.length ys H → ∀ p, H p = none → Q (.ref p) (upd H p (.lst ys))) : LCwT n (Ite K a c) g tc te σ H Q := by
  refine ⟨fun i m ys H => m = xs.length - i ∧ i ≤ xs.length ∧ Pv i ys H, ⟨xs.length, by simp, Nat.zero_le _, h0⟩, ?_⟩
  rintro i m ys H ⟨rfl, hi, p⟩
  have q := hk i ys H hi p
  by_cases hlt : i < xs.length
  · refine .inr ⟨⟨xs, xs[i], q, by simp [hlt]⟩, small1000 (by have := hl i ys H p; omega), Pv (i + 1), fun zs H' p' => ⟨xs.length - (i + 1), by omega, rfl, hlt, p'⟩, fun x H' y => ?_⟩
    obtain ⟨pp, v, e1, e2, e3, y⟩ := y
    subst e2 e3
    exact hs i v ys H pp (y xs q) p e1
  · have e : i = xs.length := by omega
    subst e
    exact .inl ⟨⟨xs, q, Nat.le_refl _⟩, hd ys H p⟩
end L2
set_option Elab.async false
set_option maxHeartbeats 4000000
set_option maxRecDepth 100000
namespace L2
open PySem PySem.Spec PyProof.Rows
theorem FpOk.heap {X : Cx} {pins : List (Addr × Obj)} {H H' : Hp} {b : Addr} (h : FpOk X pins H b) (n : H' b = none) : FpOk X pins H' b := ⟨n, h.2⟩
/-- what a key says of an item -/
abbrev TK := V → Hp → (Int → Hp → Prop) → Prop
def KeyR (X : Cx) (q : Addr) (t : TK) : Prop := ∀ (pins : List (Addr × Obj)) (s : Shared) (σ : St) (H : Hp) (x : V) (xv : Value) (Q : Int → Hp → Prop), Inv X pins σ H s → RelV x xv → t x H Q →
  wpAny (model X.prog X.w) X.A.in1 (call (.ref q) [xv]) (fun u s' => ∃ n tk H', u = .int n tk ∧ Inv X pins σ H' s' ∧ Q n H') (fun _ _ => False) s
/-- one key asked, with the iterator and the best so far pinned -/
theorem key_pinned {X : Cx} {q : Addr} {t : TK} (hK : KeyR X q t) {pins : List (Addr × Obj)} {σ : St} {H : Hp} {s : Shared} {x : V} {xv : Value} {Q : Int → Hp → Prop} {I S : Addr} {oI oS : Obj} (Iv : Inv X pins σ H s) (fI : FpOk X pins H I) (fS : FpOk X pins H S)
    (hI : s.heap.get? I = some oI) (hS : s.heap.get? S = some oS) (dI : ∀ v, oI.data ≠ .cell v) (dS : ∀ v, oS.data ≠ .cell v) (rx : RelV x xv) (h : t x H Q) :
    wpAny (model X.prog X.w) X.A.in1 (call (.ref q) [xv]) (fun u s' => ∃ n tk H', u = .int n tk ∧ Inv X pins σ H' s' ∧ Q n H' ∧ s'.heap.get? I = some oI ∧ s'.heap.get? S = some oS ∧ FpOk X pins H' I ∧ FpOk X pins H' S) (fun _ _ => False) s := by
  have I2 : Inv X (pins ++ [(I, oI), (S, oS)]) σ H s := Iv.pins_of fun p hp => by
    rcases List.mem_append.mp hp with hp | hp
    · exact Iv.pin p (List.mem_append_right _ hp)
    · rcases List.mem_cons.mp hp with rfl | hp
      · exact ⟨hI, fI.1, fI.2.1, fI.2.2.1, dI⟩
      · rw [List.mem_singleton.mp hp]
        exact ⟨hS, fS.1, fS.2.1, fS.2.2.1, dS⟩
  refine wpAny_mono (hK _ s σ H x xv Q I2 rx h) (fun u s' ⟨n, tk, H', e, I3, q⟩ => ?_) fun _ _ z => z
  have p1 := I3.pin (I, oI) (List.mem_append_right _ (List.mem_append_right _ (.head _)))
  have p2 := I3.pin (S, oS) (List.mem_append_right _ (List.mem_append_right _ (.tail _ (.head _))))
  exact ⟨n, tk, H', e, I3.unpinned, q, p1.1, p2.1, fI.heap p1.2.1, fS.heap p2.2.1⟩
/-- the best so far is written anew -/
theorem best_put {X : Cx} {pins : List (Addr × Obj)} {σ : St} {H : Hp} {s : Shared} {S : Addr} (g : Array Value → Array Value) (Iv : Inv X pins σ H s) (fS : FpOk X pins H S) : Inv X pins σ H { s with heap := s.heap.update S (Obj.mapSeq g) } := by
  obtain ⟨f0, f1, f2, f3, f4, f5⟩ := fS
  have s1 := Heap.SameBut.update s.heap S (Obj.mapSeq g)
  exact Iv.turned (t' := s.toks) (fun b o hb e => (s1.2 b hb).trans e) f0 f1 f3 f4 f5
theorem nsat (ns : List Int) (n : Int) {j : Nat} (h : j < ns.length) : (ns ++ [n]).getD j 0 = ns.getD j 0 := by
  rw [List.getD_eq_getElem?_getD, List.getD_eq_getElem?_getD, List.getElem?_append_left h]
theorem nsat_last (ns : List Int) (n : Int) : (ns ++ [n]).getD ns.length 0 = n := by
  rw [List.getD_eq_getElem?_getD, List.getElem?_append_right (Nat.le_refl _), Nat.sub_self]; rfl
section
variable {X : Cx} {pins : List (Addr × Obj)} {σ : St} {l I S q : Addr} {xs : List V} {t : TK} {R : Result → Shared → Prop}
theorem max_loop (hc : X.calm = true) (hK : KeyR X q t) (hSI : S ≠ I) (W : Nat → List Int → Hp → Prop) (hl : ∀ j ns H, W j ns H → SqL X.K H l xs)
    (hs : ∀ j x ns H, xs[j]? = some x → ns.length = j → W j ns H → t x H fun n H' => W (j + 1) (ns ++ [n]) H')
    (hR : ∀ i x u ns H s, xs[i]? = some x → RelV x u → ns.length = xs.length → (∀ j, j < ns.length → ns.getD j 0 ≤ ns.getD i 0 ∧ (j < i → ns.getD j 0 < ns.getD i 0)) → W xs.length ns H → Inv X pins σ H s → R (.ok (.ret u)) s) :
    ∀ (r j i : Nat) (s : Shared) (H : Hp) (xb : V) (vb : Value) (ns : List Int) (tb : Tok) (c : Nat), xs.length - j = r → 0 < j → j ≤ xs.length → Inv X pins σ H s → FpOk X pins H I → FpOk X pins H S →
      s.heap.get? S = some (seqObj "list" #[vb, .int (ns.getD i 0) tb] c) → s.heap.IsListIter I l j → xs[i]? = some xb → RelV xb vb → i < j → ns.length = j → (∀ j', j' < j → ns.getD j' 0 ≤ ns.getD i 0 ∧ (j' < i → ns.getD j' 0 < ns.getD i 0)) → W j ns H →
      codeAny (model X.prog X.w) X.A (.builtin "max.loop" ⟨[.ref I, .ref q, .ref S], []⟩) R s := by
  have hname : (toString "max" ++ toString ".loop" : String) = "max.loop" := by decide
  intro r
  induction r with
  | zero =>
    intro j i s H xb vb ns tb c hr hj0 hj Iv fI fS hS hit hxb rb hij hnl hbest w
    have hin : j = xs.length := by omega
    obtain ⟨its, rv, pl, hz⟩ := Iv.list (hl j ns H w)
    have lv := rv.length
    refine codeAny_builtin PySem.F.entry_max_loop ?_
    rw [Around.under_plainId PySem.F.plain_max_loop _]
    show wpAny _ X.A.in1 (seqItems? (.ref S) >>= _) _ _ _
    refine wpAny_bind (wpAny_seqItems hS rfl ?_)
    show wpAny _ X.A.in1 (tryCatch (pyNext (.ref I)) _ >>= _) _ _ _
    refine wpAny_bind (wpAny_tryCatch (wpAny_pyNext_list_end (A := X.A.in1) (Iv.ok.hd hc) hit pl.isList (by simp; omega) fun h' eb => ?_))
    have hS' : h'.get? S = some (seqObj "list" #[vb, .int (ns.getD i 0) tb] c) := eb S _ hSI hS
    have I1 : Inv X pins σ H { s with heap := h' } := by
      obtain ⟨f0, f1, f2, f3, f4, f5⟩ := fI
      exact Iv.turned (t' := s.toks) (fun b o hb e => eb b o hb e) f0 f1 f3 f4 f5
    show wpAny _ X.A.in1 (updateSeq S (fun _ => #[]) >>= _) _ _ _
    refine wpAny_bind ?_
    refine wpAny_updateSeq hS' rfl (wpAny_bind (wpAny_letGo (wpAny_pure ?_)))
    subst hin
    exact hR i xb vb ns H _ hxb rb hnl (fun j' hj' => hbest j' (by omega)) w (best_put (fun _ => #[]) I1 fS)
  | succ r ih =>
    intro j i s H xb vb ns tb c hr hj0 hj Iv fI fS hS hit hxb rb hij hnl hbest w
    have hlt : j < xs.length := by omega
    obtain ⟨its, rv, pl, hz⟩ := Iv.list (hl j ns H w)
    obtain ⟨v, hv, ru⟩ := rv.get (List.getElem?_eq_getElem hlt)
    refine codeAny_builtin PySem.F.entry_max_loop ?_
    rw [Around.under_plainId PySem.F.plain_max_loop _]
    show wpAny _ X.A.in1 (seqItems? (.ref S) >>= _) _ _ _
    refine wpAny_bind (wpAny_seqItems hS rfl ?_)
    show wpAny _ X.A.in1 (tryCatch (pyNext (.ref I)) _ >>= _) _ _ _
    refine wpAny_bind (wpAny_tryCatch (wpAny_pyNext_list_item hit pl.isList (x := v) (by simpa using hv) fun h' st' sb => ?_))
    have sb' : Heap.SameBut I s.heap h' := sb
    have hS' : h'.get? S = some (seqObj "list" #[vb, .int (ns.getD i 0) tb] c) := (sb'.2 S hSI).trans hS
    have I1 : Inv X pins σ H { s with heap := h' } := by
      obtain ⟨f0, f1, f2, f3, f4, f5⟩ := fI
      exact Iv.turned (t' := s.toks) (fun b o hb e => (sb'.2 b hb).trans e) f0 f1 f3 f4 f5
    obtain ⟨oI, hoI, hoc, hod⟩ := id st'
    show wpAny _ X.A.in1 (tryCatch (holding [v] (call (.ref q) [v])) _ >>= _) _ _ _
    refine wpAny_bind (wpAny_tryCatch (wpAny_holding (wpAny_mono (key_pinned hK I1 fI fS hoI hS' (fun z e => by rw [hod] at e; cases e) (fun z e => by cases e) ru (hs j _ ns H (List.getElem?_eq_getElem hlt) hnl w)) (fun x s'' he => ?_) fun _ _ hF => hF.elim)))
    obtain ⟨n, t2, H2, rfl, I2, w2, hI2, hS2, fI2, fS2⟩ := he
    have hit2 : s''.heap.IsListIter I l (j + 1) := ⟨oI, hI2, hoc, hod⟩
    show wpAny _ X.A.in1 (tryCatch (holding [v, .int n t2] (richCompare .Gt (.int n t2) (.int (ns.getD i 0) tb) >>= _)) _ >>= _) _ _ _
    refine wpAny_bind (wpAny_tryCatch (wpAny_holding (wpAny_bind (CmpOf.ints_gt (prog := X.prog) (w := X.w) (A := X.A.in1) (P := fun i' v' => ∃ t, v' = .int (if i' = 0 then n else ns.getD i 0) t) (fun i' => if i' = 0 then n else ns.getD i 0) (fun i v h => h) 0 1 _ _ _ _ _ ⟨t2, rfl⟩ ⟨tb, rfl⟩ ?_))))
    refine wpAny_bind (wpAny_holding (wpAny_truthy_bool ?_))
    refine wpAny_bind (wpAny_letGo (wpAny_pure ?_))
    have hb1 : ∀ j', j' < j → (ns ++ [n]).getD j' 0 = ns.getD j' 0 := fun j' h => nsat ns n (by omega)
    have hb2 : (ns ++ [n]).getD j 0 = n := by rw [← hnl]; exact nsat_last ns n
    by_cases hb' : n > ns.getD i 0
    · have s1 := Heap.SameBut.update s''.heap S (Obj.mapSeq fun _ => #[v, .int n t2])
      obtain ⟨c2, hc2⟩ : ∃ c2, (s''.heap.update S (Obj.mapSeq fun _ => #[v, .int n t2])).get? S = some (seqObj "list" #[v, .int n t2] c2) := ⟨_, get?_update_seq hS2 fun _ => #[v, .int n t2]⟩
      split
      rotate_left
      · rename_i hcc; exact absurd (by simpa using hb') hcc
      refine wpAny_bind ?_
      refine wpAny_updateSeq hS2 rfl (wpAny_bind (wpAny_letGo ?_))
      rw [hname]
      refine wpAny_pure ⟨plainId_quiet PySem.F.plain_max_loop _, ih (j + 1) j _ H2 _ v (ns ++ [n]) t2 c2 (by omega) (Nat.succ_pos _) hlt (best_put _ I2 fS2) fI2 fS2 (by rw [hb2]; exact hc2) ⟨oI, (s1.2 I hSI.symm).trans hI2, hoc, hod⟩ (List.getElem?_eq_getElem hlt) ru (Nat.lt_succ_self _) (by rw [List.length_append, hnl]; rfl) (fun j' hj' => ?_) w2⟩
      rw [hb2]
      by_cases e : j' = j
      · subst e
        exact ⟨by rw [hb2]; exact Int.le_refl _, fun h => absurd h (Nat.lt_irrefl _)⟩
      · have hlt' : j' < j := by omega
        have h1 := (hbest j' hlt').1
        rw [hb1 j' hlt']
        exact ⟨by omega, fun _ => by omega⟩
    · split
      · rename_i hcc; exact absurd (by simpa using hcc) hb'
      refine wpAny_bind (wpAny_letGo ?_)
      rw [hname]
      refine wpAny_pure ⟨plainId_quiet PySem.F.plain_max_loop _, ih (j + 1) i _ H2 xb vb (ns ++ [n]) tb c (by omega) (Nat.succ_pos _) hlt I2 fI2 fS2 (by rw [hb1 i hij]; exact hS2) hit2 hxb rb (by omega) (by rw [List.length_append, hnl]; rfl) (fun j' hj' => ?_) w2⟩
      rw [hb1 i hij]
      by_cases e : j' = j
      · subst e
        rw [hb2]
        exact ⟨by omega, fun h => absurd h (by omega)⟩
      · have hlt' : j' < j := by omega
        rw [hb1 j' hlt']
        exact hbest j' hlt'
/-- max(xs, key=q) of a list that is not empty: the first item whose key is the greatest -/
theorem max_keyed {s : Shared} {H : Hp} {Q : Value → Shared → Prop} {E : Value → Shared → Prop} (hc : X.calm = true) (hK : KeyR X q t) (Iv : Inv X pins σ H s) (W : Nat → List Int → Hp → Prop) (w0 : W 0 [] H) (h0 : 0 < xs.length) (hl : ∀ j ns H, W j ns H → SqL X.K H l xs)
    (hs : ∀ j x ns H, xs[j]? = some x → ns.length = j → W j ns H → t x H fun n H' => W (j + 1) (ns ++ [n]) H')
    (hR : ∀ i x u ns H s, xs[i]? = some x → RelV x u → ns.length = xs.length → (∀ j, j < ns.length → ns.getD j 0 ≤ ns.getD i 0 ∧ (j < i → ns.getD j 0 < ns.getD i 0)) → W xs.length ns H → Inv X pins σ H s → Q u s) :
    wpAny (model X.prog X.w) X.A (call (.builtin "max") [.ref l] [(Str.ofString "key", .ref q)]) Q E s := by
  have hname : (toString "max" ++ toString ".loop" : String) = "max.loop" := by decide
  obtain ⟨its, rv, pl, hz⟩ := Iv.list (hl 0 [] H w0)
  obtain ⟨ol, hol, _⟩ := id pl.isList
  refine kmk_tree PySem.F.kind_max PySem.F.plain_max PySem.F.entry_max (kmk_max_key _ _) ?_
  show wpAny _ X.A.in1 (Builtin.Builtins.bindParams "max" ["key", "default"] 0 ⟨[], [(Str.ofString "key", .ref q)]⟩ >>= _) _ _ s
  refine wpAny_bind (wpAny_of_eq (show Builtin.Builtins.bindParams "max" ["key", "default"] 0 ⟨[], [(Str.ofString "key", .ref q)]⟩ = pure [some (.ref q), none] from rfl) ?_)
  refine wpAny_bind (wpAny_pure ?_)
  refine wpAny_bind (wpAny_pyIter_list pl.isList ?_)
  refine wpAny_bind (wpAny_newList ?_ (Nat.zero_le _))
  rw [hname]
  have eS : (s.heap.push { cls := .type "list_iterator", data := .fields #[.ref l, .int 0 0] }).objs.size = s.heap.objs.size + 1 := size_push' ..
  have gI : ((s.heap.push { cls := .type "list_iterator", data := .fields #[.ref l, .int 0 0] }).push (seqObj "list" #[] 0)).get? s.heap.objs.size = some { cls := .type "list_iterator", data := .fields #[.ref l, .int 0 0] } :=
    Heap.get?_push_of_some _ (Heap.get?_push_size _ rfl)
  have gS : ((s.heap.push { cls := .type "list_iterator", data := .fields #[.ref l, .int 0 0] }).push (seqObj "list" #[] 0)).get? (s.heap.objs.size + 1) = some (seqObj "list" #[] 0) := by rw [← eS]; exact Heap.get?_push_size _ rfl
  have I0 : Inv X pins σ H { s with heap := (s.heap.push { cls := .type "list_iterator", data := .fields #[.ref l, .int 0 0] }).push (seqObj "list" #[] 0) } := Iv.kept (t' := s.toks) fun b o e => Heap.get?_push_of_some _ (Heap.get?_push_of_some _ e)
  have fI : FpOk X pins H s.heap.objs.size := Iv.fpOk (Nat.le_refl _) (Iv.hok.fresh (Nat.le_refl _))
  have fS : FpOk X pins H (s.heap.objs.size + 1) := Iv.fpOk (Nat.le_succ _) (Iv.hok.fresh (Nat.le_succ _))
  rw [eS]
  generalize (s.heap.push { cls := .type "list_iterator", data := .fields #[.ref l, .int 0 0] }).push (seqObj "list" #[] 0) = h1 at gI gS I0 ⊢
  have hSI : s.heap.objs.size + 1 ≠ s.heap.objs.size := Nat.succ_ne_self _
  generalize s.heap.objs.size + 1 = S at gS fS hSI ⊢
  generalize s.heap.objs.size = I at gI fI hSI ⊢
  refine wpAny_pure ⟨plainId_quiet PySem.F.plain_max_loop _, ?_⟩
  obtain ⟨its, rv, pl, hz⟩ := I0.list (hl 0 [] H w0)
  obtain ⟨v, hv, ru⟩ := rv.get (List.getElem?_eq_getElem h0)
  refine codeAny_builtin PySem.F.entry_max_loop ?_
  rw [Around.under_plainId PySem.F.plain_max_loop _]
  show wpAny _ X.A.in1 (seqItems? (.ref S) >>= _) _ _ _
  refine wpAny_bind (wpAny_seqItems gS rfl ?_)
  show wpAny _ X.A.in1 (tryCatch (pyNext (.ref I)) _ >>= _) _ _ _
  have hit : h1.IsListIter I l 0 := ⟨_, gI, rfl, rfl⟩
  refine wpAny_bind (wpAny_tryCatch (wpAny_pyNext_list_item hit pl.isList (x := v) (by simpa using hv) fun h' st' sb => ?_))
  have sb' : Heap.SameBut I h1 h' := sb
  have hS' : h'.get? S = some (seqObj "list" #[] 0) := (sb'.2 S hSI).trans gS
  have I1 : Inv X pins σ H { s with heap := h' } := by
    obtain ⟨f0, f1, f2, f3, f4, f5⟩ := fI
    exact I0.turned (t' := s.toks) (fun b o hb e => (sb'.2 b hb).trans e) f0 f1 f3 f4 f5
  obtain ⟨oI, hoI, hoc, hod⟩ := id st'
  show wpAny _ X.A.in1 (tryCatch (holding [v] (call (.ref q) [v])) _ >>= _) _ _ _
  refine wpAny_bind (wpAny_tryCatch (wpAny_holding (wpAny_mono (key_pinned hK I1 fI fS hoI hS' (fun z e => by rw [hod] at e; cases e) (fun z e => by cases e) ru (hs 0 _ [] H (List.getElem?_eq_getElem h0) rfl w0)) (fun x s'' he => ?_) fun _ _ hF => hF.elim)))
  obtain ⟨n, t2, H2, rfl, I2, w2, hI2, hS2, fI2, fS2⟩ := he
  have s1 := Heap.SameBut.update s''.heap S (Obj.mapSeq fun _ => #[v, .int n t2])
  obtain ⟨c2, hc2⟩ : ∃ c2, (s''.heap.update S (Obj.mapSeq fun _ => #[v, .int n t2])).get? S = some (seqObj "list" #[v, .int n t2] c2) := ⟨_, get?_update_seq hS2 fun _ => #[v, .int n t2]⟩
  show wpAny _ X.A.in1 (updateSeq S (fun _ => #[v, .int n t2]) >>= _) _ _ _
  refine wpAny_bind ?_
  refine wpAny_updateSeq hS2 rfl ?_
  rw [hname]
  refine wpAny_pure ⟨plainId_quiet PySem.F.plain_max_loop _, max_loop (R := fun r s' => match r with | .ok (.ret v) => Q v s' | .ok _ => False | .error e => E e s') hc hK hSI W hl hs hR _ 1 0 _ H2 _ v [n] t2 c2 rfl (Nat.succ_pos _) h0 (best_put _ I2 fS2) fI2 fS2 hc2 ⟨oI, (s1.2 I hSI.symm).trans hI2, hoc, hod⟩ (List.getElem?_eq_getElem h0) ru (Nat.succ_pos _) rfl (fun j' hj' => ?_) w2⟩
  have e : j' = 0 := by omega
  subst e
  exact ⟨Int.le_refl _, fun h => absurd h (Nat.lt_irrefl _)⟩
end
/-- what max(xs, key=..) wants: W, the invariant by how many keys have been asked and what they said -/
def MaxW (K : PySem.W.Frag) (t : TK) (l : Addr) (H : Hp) (Q : VK) : Prop := ∃ (xs : List V) (W : Nat → List Int → Hp → Prop), 0 < xs.length ∧ W 0 [] H ∧ (∀ j ns H, W j ns H → SqL K H l xs) ∧
  (∀ j x ns H, xs[j]? = some x → ns.length = j → W j ns H → t x H fun n H' => W (j + 1) (ns ++ [n]) H') ∧
  ∀ i x ns H, xs[i]? = some x → ns.length = xs.length → (∀ j, j < ns.length → ns.getD j 0 ≤ ns.getD i 0 ∧ (j < i → ns.getD j 0 < ns.getD i 0)) → W xs.length ns H → Q x H
def tMaxK (ta : TA) (tk : TE) (kt : V → TK) (K : PySem.W.Frag) : TE := fun σ H Q => ta σ H fun vs H1 => ∃ l, vs = [.ref l] ∧ tCons tk tNil σ H1 fun ks H2 => ∃ q, ks = [.ref q] ∧ MaxW K (kt (.ref q)) l H2 Q
theorem bo_maxB : bootBuiltins "max" = some (.builtin "max") := by decide +kernel
theorem pe_maxK {X : Cx} {a ek : Expr} {ta : TA} {tk : TE} {kt : V → TK} {p pos kp : Pos} (hc : X.calm = true) (hm : X.mg "max" = none) (ha : PA X [a] ta) (hk : PE X ek tk) (hK : ∀ q, KeyR X q (kt (.ref q))) (hg : Gl X "max" := by rfl)
    (he : starEach [a] X.env = (false, eval a X.env) :: starEach [] X.env := by rfl) (hpl : ((backTo pos (starEach [a] X.env)).any (·.1) || (backToKw pos (keywordEach [⟨some "key", ek, kp⟩] X.env)).any (·.1.isNone)) = false := by rfl) :
    PE X (.Call (.Name "max" p) [a] [⟨some "key", ek, kp⟩] pos) (tMaxK ta tk kt X.K) := by
  intro pins s σ H Q I h
  refine wpAny_Call_Name_kw (ld_blt I hg hm bo_maxB ?_)
  refine PySem.W.callWith_of (P := fun _ => True) hpl (fun h _ => ⟨.machine, .inr (.inl rfl), PySem.W.Looks.of_pure rfl⟩) (evalArgs_kw2 rfl (thn (ha pos pins s σ H _ I h) fun us s1 ⟨vs, H1, I1, r, q⟩ => ?_) he)
  have hk' : PK X [⟨some "key", ek, kp⟩] (tCons tk tNil) := pk_cons hk pk_nil
  obtain ⟨l, rfl, q⟩ := q
  obtain ⟨u, rfl, ru⟩ := vals1 r
  cases ru
  refine thn (hk' pos pins s1 σ H1 (fun vs H' => ∃ q, vs = [.ref q] ∧ MaxW X.K (kt (.ref q)) l H' Q) I1 q) fun ws s2 ⟨zs, H2, I2, rz, qa, ez, q⟩ => ⟨trivial, ?_⟩
  subst ez
  obtain ⟨w1, rfl, rw⟩ := vals1 rz
  cases rw
  show wpAny _ _ (call (.builtin "max") [.ref l] [("key", .ref qa)]) _ _ _
  obtain ⟨xs, W, h0, w0, hl, hs, hR⟩ := q
  exact max_keyed hc (hK qa) I2 W w0 h0 hl hs fun i x u ns H' s' h1 h2 h3 h4 h5 h6 => ⟨x, H', h6, h2, hR i x ns H' h1 h3 h4 h5⟩
end L2
set_option Elab.async false
set_option maxHeartbeats 4000000
set_option maxRecDepth 100000
namespace L2
open PySem PySem.Spec PyProof.Rows
/-- an object known as it is -/
def exO (a : Addr) (o : Obj) : HO := .ext fun h => h.get? a = some o
theorem exO_ok {P : Program} {w : World} {H : Hp} {h : Heap} {a : Addr} {o : Obj} (e : h.get? a = some o) : ObjOk P w H h a (exO a o) := ⟨e, ⟨o, e⟩, fun _ _ p k => k o p⟩
theorem exO_get {P : Program} {w : World} {H : Hp} {h : Heap} {a : Addr} {o : Obj} (x : ObjOk P w H h a (exO a o)) : h.get? a = some o := x.1
/-- the table at P: empty, or the one lambda's code in it -/
def TabOk (qual : Str) (line col : Nat) (P : Addr) (H : Hp) : Prop :=
  H P = some (.tbl #[]) ∨ ∃ c oc vs t, H P = some (.tbl #[rawInt line, rawInt col, .ref c]) ∧ H c = some (exO c oc) ∧ oc.data = .fields vs ∧ vs[1]? = some (.str qual t)
theorem TabOk.same {qual : Str} {line col : Nat} {P : Addr} {H H' : Hp} (t : TabOk qual line col P H) (s : Same H H') : TabOk qual line col P H' := by
  rcases t with e | ⟨c, oc, vs, t, e1, e2, e3⟩
  · exact .inl (s _ _ e)
  · exact .inr ⟨c, oc, vs, t, s _ _ e1, s _ _ e2, e3⟩
/-- the module builtins, as the globals name it -/
def BMain (mg : Str → Option Value) (base : Heap) : Prop := ∃ bm o, mg "__builtins__" = some (.ref bm) ∧ bm ≠ builtinsNs ∧ bm ≠ mainGlobals ∧ base.get? bm = some o ∧ o.cls = .type "module" ∧ o.dict = some builtinsNs ∧ o.data = .plain
/-- what is known of the def's code -/
structure TabK (K : PySem.W.Frag) (mg : Str → Option Value) (base : Heap) (c P : Addr) : Prop where
  hd : PySem.W.codeHdIn K c P = true
  bt : BMain mg base
/-- things stay as they are, tables grow -/
structure SameT (H H' : Hp) : Prop where
  to : ∀ b o, H b = some o → (∀ ps, o ≠ .tbl ps) → H' b = some o
  tb : ∀ b ps, H b = some (.tbl ps) → ∃ qs, H' b = some (.tbl qs)
theorem Same.t {H H' : Hp} (s : Same H H') : SameT H H' := ⟨fun b o e _ => s b o e, fun b ps e => ⟨ps, s _ _ e⟩⟩
theorem SameT.refl (H : Hp) : SameT H H := (Same.refl H).t
theorem SameT.trans {H H1 H2 : Hp} (a : SameT H H1) (b : SameT H1 H2) : SameT H H2 := ⟨fun c o e n => b.to c o (a.to c o e n) n, fun c ps e => by
  obtain ⟨qs, e1⟩ := a.tb c ps e
  exact b.tb c qs e1⟩
theorem SameT.free {H H' : Hp} (a : SameT H H') {b : Addr} (n : H' b = none) : H b = none := by
  cases q : H b with
  | none => rfl
  | some o =>
    by_cases c : ∃ ps, o = .tbl ps
    · obtain ⟨ps, rfl⟩ := c
      obtain ⟨qs, e⟩ := a.tb b ps q
      rw [n] at e; cases e
    · have := a.to b o q fun ps e => c ⟨ps, e⟩
      rw [n] at this; cases this
theorem SameT.lst {H H' : Hp} (s : SameT H H') {b : Addr} {xs : List V} (e : H b = some (.lst xs)) : H' b = some (.lst xs) := s.to b _ e fun _ z => nomatch z
theorem SameT.tupl {H H' : Hp} (s : SameT H H') {b : Addr} {xs : List V} (e : H b = some (.tup xs)) : H' b = some (.tup xs) := s.to b _ e fun _ z => nomatch z
theorem SameT.ins {H H' : Hp} (s : SameT H H') {b C dx : Addr} {fs : List (Str × V)} (e : H b = some (.ins C dx fs)) : H' b = some (.ins C dx fs) := s.to b _ e fun _ z => nomatch z
theorem SameT.upd {H H' : Hp} {p : Addr} {o : HO} (s : SameT H H') (h : H p = none) : SameT H (upd H' p o) := ⟨fun b u q n => by rw [upd_ne (ne_of_none q h)]; exact s.to b u q n, fun b ps q => by rw [upd_ne (ne_of_none q h)]; exact s.tb b ps q⟩
theorem same_add {H : Hp} {p : Addr} (h : H p = none) (o : HO) : Same H (upd H p o) := fun b u q => by rw [upd_ne (ne_of_none q h)]; exact q
def lamObj (qual : Str) (params : Arguments) (body : Expr) (scope : Scope) (pm cdv ct : Value) : Obj := { cls := .type "function", data := .func (PySem.W.kla_fn "<lambda>" qual params body scope [] pm cdv ct) }
/-- f is the lambda -/
def IsLam (qual : Str) (params : Arguments) (body : Expr) (scope : Scope) (H : Hp) (f : Addr) : Prop :=
  ∃ pm c oc vs t ct, H c = some (exO c oc) ∧ oc.data = .fields vs ∧ vs[1]? = some (.str qual t) ∧ H f = some (exO f (lamObj qual params body scope pm (.ref c) ct))
/-- a new function; the table as TabOk says -/
def tLam (qual : Str) (line col : Nat) (P : Addr) (params : Arguments) (body : Expr) (scope : Scope) : TE := fun _ H Q => TabOk qual line col P H ∧
  ∀ f H', SameT H H' → TabOk qual line col P H' → H f = none → IsLam qual params body scope H' f → Q (.ref f) H'
theorem pe_lam {X : Cx} {params : Arguments} {body : Expr} {scope : Scope} {pos : Pos} {c P : Addr} (T : TabK X.K X.mg X.base c P) (hcode : X.env.code = .ref c) (hd : defaultsOf params X.env = ([], [])) (hcl : closureFor scope X.env = pure []) : PE X (.Lambda params body scope pos) (tLam (X.env.qual ++ "<lambda>") pos.line pos.col P params body scope) := by
  intro pins s σ H Q I h
  obtain ⟨tab, q⟩ := h
  have KX : X.K.In s.heap := I.kIn
  have C := PySem.W.codeHd_of_K KX T.hd
  have hg : s.heap.Ns mainGlobals X.mg := by
    obtain ⟨o, es, ep, e, r⟩ := I.ok.mod.glob
    exact ⟨o, es, ep, I.bk _ _ e, r⟩
  have hnP : H P ≠ none := by
    rcases tab with e | ⟨_, _, _, _, e, _⟩ <;> rw [e] <;> simp
  have hb : s.heap.BuiltinsAt X.mg P := by
    obtain ⟨bm, o, b1, b2, b3, b4, b5⟩ := T.bt
    exact ⟨bm, o, b1, b2, b3, fun z => by have := (I.bs _ _ b4).2; rw [z] at this; exact hnP this, I.bk _ _ b4, b5⟩
  have hP : mainGlobals ≠ P := fun z => by
    obtain ⟨o, es, ep, e, r⟩ := I.ok.mod.glob
    have := (I.bs _ _ e).2
    rw [z] at this; exact hnP this
  rw [arm_eval_Lambda, hd]
  refine wpAny_bind (wpAny_pure (wpAny_bind (wpAny_holding (wpAny_pure ?_))))
  have tt : ∀ x : Nat, TriplesOk ([] : List Value) := fun _ => by trivial
  rcases tab with e0 | ⟨c0, oc0, vs0, t0, e1, e2, e3, e4⟩
  · have hPo : s.heap.get? P = some (PySem.W.tabObj #[]) := I.hok P _ e0
    refine PySem.W.kla_makeFunction (mg := X.mg) hcl I.ok.glob hg hcode C hPo (tt 0) rfl hP hb fun c' ctv h' tk hx hge hlt hrec htb => ?_
    obtain ⟨c2, oc, vs, t, z, hoc, hdat, hv⟩ := hrec
    cases z
    have ff : h'.objs.size ≠ c' := Nat.ne_of_gt hlt
    have fP : P < s.heap.objs.size := Heap.lt_size hPo
    have pc : P ≠ c' := Nat.ne_of_lt (Nat.lt_of_lt_of_le fP hge)
    have pf : P ≠ h'.objs.size := Nat.ne_of_lt (Nat.lt_trans (Nat.lt_of_lt_of_le fP hge) hlt)
    have nc : H c' = none := I.hok.fresh hge
    have nf : H h'.objs.size = none := I.hok.fresh (Nat.le_trans hge (Nat.le_of_lt hlt))
    generalize hob : PySem.W.kla_obj "<lambda>" (X.env.qual ++ "<lambda>") params body scope [] ((X.mg "__name__").getD .none) c' ctv = ob
    have gf : (h'.push ob).get? h'.objs.size = some ob := Heap.get?_push_size _ (by rw [← hob]; rfl)
    have gk : ∀ b o, b ≠ P → s.heap.get? b = some o → (h'.push ob).get? b = some o := fun b o hb e => Heap.get?_push_of_some _ (hx b o hb e)
    have gP : (h'.push ob).get? P = some (PySem.W.tabObj #[rawInt pos.line, rawInt pos.col, .ref c']) := Heap.get?_push_of_some _ (by simpa using htb)
    have gc : (h'.push ob).get? c' = some oc := Heap.get?_push_of_some _ hoc
    have sT : SameT H (upd (upd (upd H P (.tbl #[rawInt pos.line, rawInt pos.col, .ref c'])) c' (exO c' oc)) h'.objs.size (exO h'.objs.size ob)) := by
      refine ⟨fun b o e n => ?_, fun b ps e => ?_⟩
      · have hb : b ≠ P := fun z => by rw [z, e0] at e; cases e; exact n _ rfl
        rw [upd_ne (ne_of_none e nf), upd_ne (ne_of_none e nc), upd_ne hb]; exact e
      · rw [upd_ne (ne_of_none e nf), upd_ne (ne_of_none e nc)]
        by_cases hb : b = P
        · rw [hb, upd_same]; exact ⟨_, rfl⟩
        · rw [upd_ne hb]; exact ⟨ps, e⟩
    have uP : (upd (upd (upd H P (.tbl #[rawInt pos.line, rawInt pos.col, .ref c'])) c' (exO c' oc)) h'.objs.size (exO h'.objs.size ob)) P = some (.tbl #[rawInt pos.line, rawInt pos.col, .ref c']) := by rw [upd_ne pf, upd_ne pc, upd_same]
    have uc : (upd (upd (upd H P (.tbl #[rawInt pos.line, rawInt pos.col, .ref c'])) c' (exO c' oc)) h'.objs.size (exO h'.objs.size ob)) c' = some (exO c' oc) := by rw [upd_ne ff.symm, upd_same]
    have uf : (upd (upd (upd H P (.tbl #[rawInt pos.line, rawInt pos.col, .ref c'])) c' (exO c' oc)) h'.objs.size (exO h'.objs.size ob)) h'.objs.size = some (exO h'.objs.size ob) := upd_same
    have un : ∀ b o, s.heap.get? b = some o → H b = none → (upd (upd (upd H P (.tbl #[rawInt pos.line, rawInt pos.col, .ref c'])) c' (exO c' oc)) h'.objs.size (exO h'.objs.size ob)) b = none := fun b o e n => by
      have hb : b ≠ P := fun z => by rw [z, e0] at n; cases n
      have hl := Heap.lt_size e
      rw [upd_ne (Nat.ne_of_lt (Nat.lt_of_lt_of_le hl (Nat.le_trans hge (Nat.le_of_lt hlt)))), upd_ne (Nat.ne_of_lt (Nat.lt_of_lt_of_le hl hge)), upd_ne hb]; exact n
    have uo : ∀ b u, b ≠ P → b ≠ c' → b ≠ h'.objs.size → (upd (upd (upd H P (.tbl #[rawInt pos.line, rawInt pos.col, .ref c'])) c' (exO c' oc)) h'.objs.size (exO h'.objs.size ob)) b = some u → H b = some u := fun b u b1 b2 b3 e => by
      rw [upd_ne b3, upd_ne b2, upd_ne b1] at e; exact e
    generalize upd (upd (upd H P (.tbl #[rawInt pos.line, rawInt pos.col, .ref c'])) c' (exO c' oc)) h'.objs.size (exO h'.objs.size ob) = H2 at sT uP uc uf un uo
    have I2 : Inv X pins σ H2 { s with heap := h'.push ob, toks := tk } := by
      refine I.step (g' := s.gens) (d' := s.drawn) (ch := []) (fun _ z => nomatch z) (fun b o _ _ _ e n => gk b o (fun z => by rw [z, e0] at n; cases n) e) (fun b o _ _ _ e n => ⟨o.slots, gk b o (fun z => by rw [z, e0] at n; cases n) e⟩) (fun b o _ e n => un b o e n)
        (fun b o _ e => ?_) (fun b xs e => sT.tupl e) (fun b o u e => sT.to _ _ e fun _ z => nomatch z) (fun b ps e => ?_) (fun m hm => ?_) (fun b u e => ?_) I.bare
      · by_cases hb : b = P
        · rw [hb]; exact ⟨_, gP⟩
        · exact ⟨o, gk b o hb e⟩
      · by_cases hb : b = P
        · rw [hb, e0] at e; cases e
          exact ⟨_, by rw [hb, uP, Array.empty_append]⟩
        · have nb : b ≠ c' := ne_of_none e nc
          have nb2 : b ≠ h'.objs.size := ne_of_none e nf
          obtain ⟨qs, eq⟩ := sT.tb b ps e
          have := uo b _ hb nb nb2 eq
          rw [e] at this; cases this
          exact ⟨#[], by rw [eq]; simp⟩
      · obtain ⟨o, es, ep, e, r⟩ := hm
        exact ⟨o, es, ep, gk _ o (fun z => by have := I.free; rw [z, e0] at this; cases this) e, r⟩
      · by_cases h1 : b = h'.objs.size
        · subst h1; rw [uf] at e; cases e; exact exO_ok gf
        · by_cases h2 : b = c'
          · subst h2; rw [uc] at e; cases e; exact exO_ok gc
          · by_cases h3 : b = P
            · rw [h3, uP] at e; cases e; rw [h3]; exact gP
            · have e' := uo b u h3 h2 h1 e
              refine (I.hok b u e').stay (fun d v hd e2 => gk d v ?_ e2) (fun d e2 => sT.to _ _ e2 fun _ z => nomatch z) fun d xs e2 => sT.tupl e2
              rcases hd with rfl | hd
              · exact h3
              · exact fun z => by rw [z, e0] at hd; cases hd
    subst hob
    exact ⟨.ref h'.objs.size, H2, I2, rfl, q _ H2 sT (.inr ⟨c', oc, vs, t, uP, uc, hdat, hv⟩) nf ⟨_, c', oc, vs, t, ctv, uc, hdat, hv, uf⟩⟩
  · have hPo : s.heap.get? P = some (PySem.W.tabObj #[rawInt pos.line, rawInt pos.col, .ref c0]) := I.hok P _ e1
    have ht : TriplesOk (#[rawInt pos.line, rawInt pos.col, .ref c0] : Array Value).toList := TriplesOk_snoc _ _ _ [] (tt 0)
    have hf : codeAmong pos (#[rawInt pos.line, rawInt pos.col, .ref c0] : Array Value).toList = some (.ref c0) := by
      show codeAmong pos [.int pos.line 0, .int pos.col 0, .ref c0] = _
      simp [codeAmong]
    refine PySem.W.kla_makeFunctionHit (mg := X.mg) hcl I.ok.glob hg hcode C hPo ht hf hb fun ctv h' tk hx hle => ?_
    generalize hob : ({ cls := .type "function", data := .func (PySem.W.kla_fn "<lambda>" (X.env.qual ++ "<lambda>") params body scope [] ((X.mg "__name__").getD .none) (.ref c0) ctv) } : Obj) = ob
    have nf : H h'.objs.size = none := I.hok.fresh hle
    have sF := same_add nf (exO h'.objs.size ob)
    have I2 : Inv X pins σ (upd H h'.objs.size (exO h'.objs.size ob)) { s with heap := h'.push ob, toks := tk } := I.laid (fun b u e => Heap.get?_push_of_some _ (hx b u e)) hle (exO_ok (Heap.get?_push_size _ (by rw [← hob]; rfl)))
    subst hob
    exact ⟨.ref h'.objs.size, _, I2, rfl, q _ _ sF.t (TabOk.same (.inr ⟨c0, oc0, vs0, t0, e1, e2, e3, e4⟩) sF) nf ⟨_, c0, oc0, vs0, t0, ctv, sF _ _ e2, e3, e4, upd_same⟩⟩
theorem lam_run {P : Program} {w : World} {K : PySem.W.Frag} {mg : Str → Option Value} {base : Heap} {k : Nat} {f : Addr} {qual : Str} {params : Arguments} {body : Expr} {scope : Scope} {pm cdv ct : Value} {N ps : List Str} {A : Around} {outer : List Env} {s : Shared} {H : Hp} {us : List Value} {vs : List V} {Q : VK} {t : TE}
    (S : FnScope N ps scope) (hr : Room (k + 1) A) (e0 : Env0 P w K mg base A outer s H) (ho : s.heap.get? f = some (lamObj qual params body scope pm cdv ct)) (hcd : s.heap.CodeRec cdv qual) (hb : bindArgs (PySem.W.kla_fn "<lambda>" qual params body scope [] pm cdv ct) ⟨us, []⟩ = pure (ps.zip us))
    (r : Vals vs us) (hl : vs.length = ps.length) (ht : PE (cxOf CX0 P w K mg base N qual scope f cdv A outer s H E0).nox body t) (h : t (start N vs) H Q) :
    codeAny (model P w) A (.call (.ref f) ⟨us, []⟩) (CR CX0 outer P w H s Q E0) s := by
  have lim : s.heap.NoLimit := e0.mod.nolimit.keeps fun b o e => (e0.bs b o e).1
  have hkind : ∀ y ∈ ps.zip us, scope.names.lookup y.1 = some .local ∨ (scope.names.lookup y.1 = some .cell ∧ ((cellsFrom (s.heap.objs.size + 1) scope.names []).lookup y.1).isSome = true) := fun ⟨n, v⟩ hy => by
    rcases S.par n (List.of_mem_zip hy).1 with q | q
    · exact .inl q
    · exact .inr ⟨q, PySem.W.cellsFrom_some _ _ _ (.inl q)⟩
  refine PySem.W.kla_callFunE hr.depth ho rfl S.co S.gen rfl hcd (wpAny_of_eq hb ?_)
  refine wpAny_newFunctionEnv_cells S.kind hkind fun env he s1 x => ?_
  subst he
  refine ⟨lim.keeps x.toInCall.keep, PySem.W.kla_codeExpr ?_⟩
  have I : Inv (cxOf CX0 P w K mg base N qual scope f cdv A outer s H E0) [] (start N vs) H s1 := inv_start S hr.hd e0 hl r x
  refine wpAny_mono (ht.nox [] s1 (start N vs) H _ I h) (fun u s' ⟨v, H', J, rv, q⟩ => ?_) fun e s' hs => hs
  exact ⟨v, H', J.os, J.bare, J.base, J.hok, rv, q⟩
/-- a lambda of one name that reads the first item of a tuple, as a key -/
def keyFirst (K : PySem.W.Frag) (qual : Str) (params : Arguments) (body : Expr) (scope : Scope) : V → TK := fun kv y H Q => ∃ q, kv = .ref q ∧ IsLam qual params body scope H q ∧ ∃ a n r, y = .ref a ∧ SqT K H a (.int n :: r) ∧ Q n H
theorem key_first {X : Cx} {k : Nat} {qual : Str} {params : Arguments} {x : Str} {body : Expr} {scope : Scope} (S : FnScope [x] [x] scope) (hr : Room (k + 2) X.A) (hb : ∀ pm cdv ct u, bindArgs (PySem.W.kla_fn "<lambda>" qual params body scope [] pm cdv ct) ⟨[u], []⟩ = pure [(x, u)])
    (hix : ∀ (K : PySem.W.Frag) (P : Program) (w : World) (mg : Str → Option Value) (base : Heap) (f : Addr) (cdv : Value) (A : Around) (outer : List Env) (s : Shared) (H : Hp), PE (cxOf CX0 P w K mg base [x] qual scope f cdv A outer s H E0).nox body (tOp (rIxT K) (tVar 0) (tC (.int 0))))
    (q : Addr) : KeyR X q (keyFirst X.K qual params body scope (.ref q)) := by
  intro pins s σ H y yv Q I ry h
  obtain ⟨q', eq, ⟨pm, c, oc, vs, t, ct, e1, e2, e3, e4⟩, a, n, r, rfl, hT, hq⟩ := h
  cases eq
  have ho := exO_get (I.hok _ _ e4)
  have hcd : s.heap.CodeRec (.ref c) qual := ⟨c, oc, vs, t, rfl, exO_get (I.hok _ _ e1), e2, e3⟩
  have run := lam_run (N := [x]) (ps := [x]) (us := [yv]) (vs := [.ref a]) (A := X.A.in1) (Q := fun v H' => v = .int n ∧ H' = H) S hr.in1 I.env0.in1 ho hcd (hb _ _ _ _) (.cons ry .nil) rfl (hix X.K X.prog X.w X.mg X.base q (.ref c) X.A.in1 X.stack s H) (by
    exact ⟨_, rfl, a, _, _, _, rfl, rfl, hT, (show atI (V.int n :: r) ((0 : Nat) : Int) = _ from atI_nat rfl), rfl, rfl⟩)
  refine wpAny_call (codeAny_mono run fun r s' hs => ?_)
  cases r with
  | error e => exact hs.elim
  | ok fl =>
    cases fl with
    | ret u =>
      obtain ⟨v, H', I2, rv, e, eh⟩ := I.after hs
      subst e; subst eh
      obtain ⟨tk, rfl⟩ := rv
      exact ⟨n, tk, H', rfl, I2, hq⟩
    | next => exact False.elim hs
    | brk => exact False.elim hs
    | cont => exact False.elim hs
def retKw (s : Stmt) : Expr := match s with
  | .Return (some (.Call _ _ [⟨_, e, _⟩] _)) _ => e
  | _ => .Constant .none 0 ⟨0, 0, 0, 0⟩
def lamArgs (e : Expr) : Arguments := match e with
  | .Lambda a _ _ _ => a
  | _ => { posonlyargs := [], args := [], vararg := none, kwonlyargs := [], kw_defaults := [], kwarg := none, defaults := [] }
def lamBody (e : Expr) : Expr := match e with
  | .Lambda _ b _ _ => b
  | _ => e
def lamScope (e : Expr) : Scope := match e with
  | .Lambda _ _ s _ => s
  | _ => { kind := .function, names := [], isGenerator := false, isCoroutine := false }
def lamPos (e : Expr) : Pos := match e with
  | .Lambda _ _ _ p => p
  | _ => ⟨0, 0, 0, 0⟩
/-- a def whose code is known -/
theorem Fun.okC {P : Program} {w : World} {K : PySem.W.Frag} {mg : Str → Option Value} {base : Heap} {x qual : Str} {st : Stmt} {f : Addr} {fd : FuncData} {N ps : List Str} {k : Nat} {sp : Sp} {c : Addr} (F : Fun K x qual st f fd) (hc : fd.code = .ref c) (S : FnScope N ps (defScope st)) (len : ∀ vs H Q E, sp vs H Q E → vs.length = ps.length)
    (hbody : ∀ (A : Around) (outer : List Env) (s : Shared) (H : Hp) (vs : List V) (Q : VK) (E : XK), Room k (A.deeper (envOfC qual (defScope st) s.heap.objs.size f (.ref c))) → sp vs H Q E →
      ∃ t, PSs (cxOf CX0 P w K mg base N qual (defScope st) f (.ref c) A outer s H E).nox (defBody st) t ∧ t { nx := fun _ H' => Q .non H', rt := Q } (start N vs) H) : FnOk P w K mg base CX0 (k + 1) f fd ps sp := by
  obtain ⟨oc, od, kV, doc, pm, an, cdv, ct, osl, rfl, lk, hcd⟩ := F.ex
  have hc' : cdv = .ref c := hc
  subst hc'
  refine fn_of lk hcd S len fun A outer s H vs Q E hr hsp => ?_
  obtain ⟨t, h, q⟩ := hbody A outer s H vs Q E hr hsp
  exact ⟨t, h.nox, q⟩
end L2
set_option Elab.async false
set_option maxHeartbeats 4000000
set_option maxRecDepth 100000
namespace L2
open PySem PySem.Spec PyProof.Rows
section
variable {prog : Program} {w : World} {A : Around} {R : Result → Shared → Prop} {I : Addr} {fp wr : List Addr} {n : Nat} {P : Nat → Value → Prop} {St : Nat → Heap → Prop} {kw : List (Str × Value)}
end
section
variable {prog : Program} {w : World} {A : Around} {E : Value → Shared → Prop} {s : Shared} {l : Addr} {xs : Array (Int × Tok)} {d : Value}
end
end L2
set_option Elab.async false
set_option maxHeartbeats 4000000
set_option maxRecDepth 100000
namespace L2
open PySem PySem.Spec PyProof.Rows
/-- nothing is tracked but the script and one code table, which is empty -/
def OnlyT (Pt : Addr) (H : Hp) : Prop := ∀ b, H b = none ∨ (∃ o xs, H b = some (.frz o (.lst xs))) ∨ (b = Pt ∧ H b = some (.tbl #[]))
/-- THE HEAD: the law's promise, at the heap behind the top. F, the promise of the law's def, may use that base is part of the heap (so K.In base, base.Ns mainGlobals mg stand in Mod) -/
theorem law_callT {P : Program} {w : World} {K : PySem.W.Frag} {mg mb : Str → Option Value} {CX : CXT} {k : Nat} {fa a : Addr} {fd : FuncData} {x : Str} {sp : Sp} {s₁ : Shared} {vs : List Value} {ns : List Int}
    (KX : K.In s₁.heap) (hns : s₁.heap.Ns mainGlobals mg) (hb : s₁.heap.Ns builtinsNs mb) (hbb : ∀ x : Str, x ≠ "__name__" → mb x = bootBuiltins x) (hlim : s₁.heap.NoLimit) (hg : s₁.gens = #[])
    (ha : s₁.heap.get? a = some { cls := .type "list", data := .seq vs.toArray }) (hi : IntsAre vs ns) (hl : ns.length ≤ sizeLine) (hr : Room k callerA)
    (F : ∀ base : Heap, K.In base → base.Ns mainGlobals mg → BMain mg base → FnOk P w K mg base CX k fa fd [x] sp) (hbm : BMain mg s₁.heap) (hbind : ∀ (s : Shared) (u : Value), BindsTo s fd ⟨[u], []⟩ [(x, u)])
    {Pt c : Addr} (hPt : s₁.heap.get? Pt = some (PySem.W.tabObj #[])) (hPK : K.lookup Pt = none) (hcd : PySem.W.CodeHd s₁.heap c Pt)
    (hsp : ∀ H : Hp, H Pt = some (.tbl #[]) → SqL K H a (ns.map V.int) → sp [.ref a] H (fun v _ => v = .bl true) fun _ _ _ => False)
    (hCX : ∀ H e s', CX [] H s₁ (fun _ _ _ => False) e s' → False) :
    codeAny (model P w) callerA (.call (.ref fa) ⟨[.ref a], []⟩) (fun r s' => r = .ok (.ret (.bool true)) ∧ OldK s₁.heap s'.heap ∧ s'.os = s₁.os ∧ AllBare s'.gens) s₁ := by
  have rv := vals_ints hi
  have lenV := hi.length
  -- from an abstract heap in which nothing but the script may be tracked
  have core : ∀ H : Hp, OnlyT Pt H → H Pt = some (.tbl #[]) → SqL K H a (ns.map V.int) → HOk P w H s₁.heap → (∀ b, H b ≠ none → b = a ∨ b = Pt) → (H a ≠ none → K.lookup a = none) →
      codeAny (model P w) callerA (.call (.ref fa) ⟨[.ref a], []⟩) (fun r s' => r = .ok (.ret (.bool true)) ∧ OldK s₁.heap s'.heap ∧ s'.os = s₁.os ∧ AllBare s'.gens) s₁ := by
    intro H hO hOP hS hok hA hK
    have base_of : ∀ {b : Addr} {o : Obj}, s₁.heap.get? b = some o → H b = none → (hidT s₁.heap H).get? b = some o := fun e n => hidT_get e n
    have noA : ∀ {b : Addr} {o : Obj} {es : Array DictEntry} {ep : Nat}, s₁.heap.get? b = some o → o.data = .dict es ep → H b = none := fun {b o es ep} e d => by
      cases q : H b with
      | none => rfl
      | some u =>
        rcases hA b (by rw [q]; simp) with e' | e'
        · subst e'
          rw [ha] at e; cases e
          have d' : Data.seq vs.toArray _ = Data.dict es ep := d
          cases d'
        · subst e'
          rw [hPt] at e; cases e
          have d' : Data.fields #[] = Data.dict es ep := d
          cases d'
    have nsK : ∀ {b : Addr} {m : Str → Option Value}, s₁.heap.Ns b m → (hidT s₁.heap H).Ns b m := fun {b m} ⟨o, es, ep, e, d, r⟩ => ⟨o, es, ep, base_of e (noA e d), d, r⟩
    have hKb : K.In (hidT s₁.heap H) := fun b o e => base_of (KX b o e) (by
      cases q : H b with
      | none => rfl
      | some u =>
        rcases hA b (by rw [q]; simp) with e' | e'
        · subst e'
          rw [hK (by rw [q]; simp)] at e; cases e
        · subst e'
          rw [hPK] at e; cases e)
    have hM : Mod K mg (hidT s₁.heap H) := ⟨hKb, nsK hns, ⟨mb, nsK hb, hbb⟩, let ⟨mc, h1, h2⟩ := hlim; ⟨mc, nsK h1, h2⟩⟩
    have hBM : BMain mg (hidT s₁.heap H) := by
      obtain ⟨bm, o, b1, b2, b3, b4, b5, b6⟩ := hbm
      refine ⟨bm, o, b1, b2, b3, base_of b4 ?_, b5, b6⟩
      cases q : H bm with
      | none => rfl
      | some u =>
        rcases hA bm (by rw [q]; simp) with e' | e'
        · subst e'
          rw [ha] at b4; cases b4
          exact absurd (Value.type.inj b5) (by decide)
        · subst e'
          rw [hPt] at b4; cases b4
          cases b5
    have e0 : Env0 P w K mg (hidT s₁.heap H) callerA [] s₁ H := ⟨rfl, hM, fun b o e => of_hidT e, Nat.le_of_eq (hidT_size _ _), trivial, fun b hb => absurd (show b ∈ ([] : List Addr) from hb) (by simp), hok, .of_eq hg⟩
    refine codeAny_mono ((F _ hKb (nsK hns) hBM).run callerA [] s₁ H ⟨[.ref a], []⟩ [.ref a] [.ref a] _ _ hr e0 (hbind s₁ (.ref a)) (.cons rfl .nil) (hsp H hOP hS)) fun r s' h => ?_
    cases r with
    | error e => exact (hCX H e s' h).elim
    | ok fl =>
      cases fl with
      | next => exact False.elim h
      | brk => exact False.elim h
      | cont => exact False.elim h
      | ret u =>
        obtain ⟨v, H', os, bare, un, hok', r', q⟩ := h
        have q' : v = .bl true := q
        subst q'
        obtain rfl : u = Value.bool true := r'
        refine ⟨rfl, ⟨fun b o e => ?_, fun b o e => un.there b o e (by simp)⟩, os, bare⟩
        cases q : H b with
        | none => exact .inl (un.keep b o e q (by intro z; exact absurd (show b ∈ ([] : List Addr) from z) (by simp)) (by simp))
        | some u =>
          rcases hO b with z | ⟨ob, xs, z⟩ | ⟨hb, z⟩
          · rw [q] at z; cases z
          · have z2 := un.frzs b ob _ z
            obtain ⟨e1, _⟩ := hok b _ z
            obtain ⟨e2, _⟩ := hok' b _ z2
            rw [e] at e1; cases e1
            exact .inl e2
          · subst hb
            obtain ⟨more, z2⟩ := un.tbls b _ z
            have e2 : s'.heap.get? b = some (PySem.W.tabObj (#[] ++ more)) := hok' b _ z2
            rw [hPt] at e; cases e
            exact .inr (.inl ⟨(hcd.tab hPt).isCodeTable, rfl, #[], more, rfl, e2⟩)
  cases hk : K.lookup a with
  | some o =>
    -- the script is one of the module's own objects
    have e := KX a o hk
    rw [ha] at e
    cases e
    have na : a ≠ Pt := fun z => by rw [z, hPt] at ha; cases ha
    refine core (fun b => if b = Pt then some (.tbl #[]) else none) (fun b => ?_) (if_pos rfl) (.inr ⟨_, vs.toArray, _, hk, rfl, rfl, rfl, by rw [List.size_toArray, lenV]; exact hl, by simpa using rv⟩) (fun b u z => ?_) (fun b z => ?_) fun z => absurd (if_neg na) z
    · by_cases hb : b = Pt
      · exact .inr (.inr ⟨hb, if_pos hb⟩)
      · exact .inl (if_neg hb)
    · by_cases hb : b = Pt
      · have z' := (if_pos hb).symm.trans z
        cases z'
        subst hb
        exact hPt
      · have z' := (if_neg hb).symm.trans z
        cases z'
    · by_cases hb : b = Pt
      · exact .inr hb
      · exact absurd (if_neg hb) z
  | none =>
    have na : a ≠ Pt := fun z => by rw [z, hPt] at ha; cases ha
    refine core (fun b => if b = a then some (.frz { cls := .type "list", data := .seq vs.toArray } (.lst (ns.map V.int))) else if b = Pt then some (.tbl #[]) else none) (fun b => ?_) ((if_neg na.symm).trans (if_pos rfl)) (.inl (.inr ⟨{ cls := .type "list", data := .seq vs.toArray }, if_pos rfl⟩)) (fun b u z => ?_) (fun b z => ?_) fun _ => hk
    · by_cases hb : b = a
      · exact .inr (.inl ⟨_, _, if_pos hb⟩)
      · by_cases hb2 : b = Pt
        · exact .inr (.inr ⟨hb2, (if_neg hb).trans (if_pos hb2)⟩)
        · exact .inl ((if_neg hb).trans (if_neg hb2))
    · by_cases hb : b = a
      · have z' := (if_pos hb).symm.trans z
        cases z'
        subst hb
        exact ⟨ha, by rw [List.length_map]; exact hl, vs, _, rv, ha⟩
      · by_cases hb2 : b = Pt
        · have z' := ((if_neg hb).trans (if_pos hb2)).symm.trans z
          cases z'
          subst hb2
          exact hPt
        · have z' := ((if_neg hb).trans (if_neg hb2)).symm.trans z
          cases z'
    · by_cases hb : b = a
      · exact .inl hb
      · by_cases hb2 : b = Pt
        · exact .inr hb2
        · exact absurd ((if_neg hb).trans (if_neg hb2)) z
theorem walk_ofT {l : PySem.W.OpenLaw} {n k : Nat} {q : Program} {loose : List Str} {XP : (Str → Option Value) → Heap → Prop} {YP : World → Heap → Prop} {d : DefRec} {K : Params → PySem.W.Frag} {CX : World → CXT} {sp : World → Sp} {x : Str} {Pt : Addr}
    (hn : l.most = some n) (hn2 : n ≤ sizeLine) (hdf : d.params.defaults = []) (hr : Room k callerA)
    (hY : ∀ (w : World) (h : Heap), YP w h → (K w.params).In h ∧ h.get? Pt = some (PySem.W.tabObj #[]))
    (F : ∀ (w : World) (mg : Str → Option Value) (fa : Addr) (h : Heap), (K w.params).In h → h.Ns mainGlobals mg → mg d.name = some (.ref fa) →
      ∃ fd : FuncData, (∀ (s : Shared) (u : Value), BindsTo s fd ⟨[u], []⟩ [(x, u)]) ∧ ((K w.params).lookup Pt = none ∧ ∃ c, PySem.W.codeHdIn (K w.params) c Pt = true) ∧
        ∀ base : Heap, (K w.params).In base → base.Ns mainGlobals mg → BMain mg base → FnOk l.prog w (K w.params) mg base (CX w) k fa fd [x] (sp w))
    (hsp : ∀ (w : World) (H : Hp) (a : Addr) (ns : List Int), ns.length ≤ n → H Pt = some (.tbl #[]) → SqL (K w.params) H a (ns.map V.int) → sp w [.ref a] H (fun v _ => v = .bl true) fun _ _ _ => False)
    (hCX : ∀ (w : World) (H : Hp) (s : Shared) (e : Value) (s' : Shared), CX w [] H s (fun _ _ _ => False) e s' → False) :
    PySem.W.WalkO q loose XP YP l.row.toRowW d [] (fun f vs => PySem.call f vs) := by
  refine Att.attach_call hn hdf fun w s₀ s₁ mg mb fa o pm cd doc a vs ns G Y ho hd hcd' hmg hobj hints hlen hg => ?_
  obtain ⟨KX, hT⟩ := hY w _ Y
  obtain ⟨fd, hb, ⟨hPK, c, hcd⟩, hF⟩ := F w mg fa _ KX G.T.g hmg
  have hbm : BMain mg s₁.heap := by
    obtain ⟨bm, ob, b1, b2, b3, b4, b5, b6⟩ := G.T.bmain
    refine ⟨bm, ob, b1, b2, fun z => ?_, b3, b4, b5, b6⟩
    obtain ⟨o', es, ep, e, hd', _⟩ := G.T.g
    rw [z, e] at b3
    cases b3
    rw [hd'] at b6
    cases b6
  exact law_callT KX G.T.g G.T.b G.T.builtins G.T.nolimit hg hobj hints (Nat.le_trans hlen hn2) hr hF hbm hb hT hPK (PySem.W.codeHd_of_K KX hcd) (fun H hO hS => hsp w H a ns hlen hO hS) fun H e s' => hCX w H s₁ e s'
end L2
namespace TM
/-- the elder of thing t (t from 1 on) -/
def el (es : List Nat) (t : Nat) : Nat := es.getD (t - 1) 0
structure Good (es ws : List Nat) : Prop where
  len : es.length + 1 = ws.length
  most : ws.length ≤ 14
  lt : ∀ k, k < es.length → es.getD k 0 ≤ k
  wo : ∀ v ∈ ws, v ≤ 1000
def Eld (es : List Nat) : Prop := ∀ k, k < es.length → es.getD k 0 ≤ k
theorem Eld.el {es : List Nat} (h : Eld es) {t : Nat} (h0 : 0 < t) (h1 : t ≤ es.length) : el es t < t := by
  have := h (t - 1) (by omega)
  unfold TM.el; omega
def dep (es : List Nat) (t : Nat) : Nat := if h : 0 < t ∧ el es t < t then dep es (el es t) + 1 else 0
termination_by t
decreasing_by exact h.2
theorem dep_zero (es : List Nat) : dep es 0 = 0 := by
  rw [dep, dif_neg (by omega)]
theorem dep_pos {es : List Nat} (h : Eld es) {t : Nat} (h0 : 0 < t) (h1 : t ≤ es.length) : dep es t = dep es (el es t) + 1 := by
  rw [dep, dif_pos ⟨h0, h.el h0 h1⟩]
def climb (es : List Nat) (thing here : Nat) : Nat := if h : thing < here ∧ el es here < here then climb es thing (el es here) else here
termination_by here
decreasing_by exact h.2
theorem climb_le {es : List Nat} {thing here : Nat} (h : here ≤ thing) : climb es thing here = here := by
  rw [climb, dif_neg (by omega)]
theorem climb_gt {es : List Nat} (h : Eld es) {thing here : Nat} (h0 : thing < here) (h1 : here ≤ es.length) : climb es thing here = climb es thing (el es here) := by
  rw [climb, dif_pos ⟨h0, h.el (by omega) h1⟩]
def isBelow (es : List Nat) (thing other : Nat) : Bool := climb es thing other == thing
theorem isBelow_lt {es : List Nat} {thing o : Nat} (h : o < thing) : isBelow es thing o = false := by
  unfold isBelow; rw [climb_le (by omega)]; simp; omega
theorem isBelow_self (es : List Nat) (thing : Nat) : isBelow es thing thing = true := by
  unfold isBelow; rw [climb_le (by omega)]; simp
theorem isBelow_gt {es : List Nat} (h : Eld es) {thing o : Nat} (h0 : thing < o) (h1 : o ≤ es.length) : isBelow es thing o = isBelow es thing (el es o) := by
  unfold isBelow; rw [climb_gt h h0 h1]
/-- all below thing among the first j -/
def belowTo (es : List Nat) (thing j : Nat) : List Nat := (List.range j).filter (isBelow es thing)
def below (es : List Nat) (thing : Nat) : List Nat := belowTo es thing (es.length + 1)
theorem belowTo_succ (es : List Nat) (thing j : Nat) : belowTo es thing (j + 1) = belowTo es thing j ++ (if isBelow es thing j then [j] else []) := by
  unfold belowTo
  rw [List.range_succ, List.filter_append]
  simp only [List.filter_cons, List.filter_nil]
theorem belowTo_start (es : List Nat) (thing : Nat) : belowTo es thing (thing + 1) = [thing] := by
  rw [belowTo_succ, isBelow_self]
  have : belowTo es thing thing = [] := by
    unfold belowTo
    rw [List.filter_eq_nil_iff]
    intro a ha
    rw [isBelow_lt (List.mem_range.mp ha)]; simp
  rw [this]; rfl
theorem belowTo_length (es : List Nat) (thing j : Nat) : (belowTo es thing j).length ≤ j := by
  unfold belowTo
  exact Nat.le_trans (List.length_filter_le _ _) (by rw [List.length_range]; exact Nat.le_refl _)
theorem mem_belowTo {es : List Nat} {thing j o : Nat} : o ∈ belowTo es thing j ↔ o < j ∧ isBelow es thing o = true := by
  unfold belowTo; rw [List.mem_filter, List.mem_range]
/-- the program's turn -/
theorem belowTo_turn {es : List Nat} (h : Eld es) {thing o : Nat} (h0 : thing < o) (h1 : o ≤ es.length) :
    belowTo es thing (o + 1) = if el es o ∈ belowTo es thing o then belowTo es thing o ++ [o] else belowTo es thing o := by
  rw [belowTo_succ, isBelow_gt h h0 h1]
  have e := h.el (t := o) (by omega) h1
  by_cases c : isBelow es thing (el es o) = true
  · rw [if_pos (mem_belowTo.mpr ⟨e, c⟩), c]; rfl
  · rw [if_neg (fun q => c (mem_belowTo.mp q).2)]
    simp [c]
theorem mem_below_lt {es : List Nat} {thing o : Nat} (h : o ∈ below es thing) : o ≤ es.length := by
  have := (mem_belowTo.mp h).1; omega
def worth (es ws : List Nat) (thing : Nat) : Nat := ((below es thing).map fun o => ws.getD o 0).sum
end TM
namespace TM
variable {es : List Nat}
theorem below_shift (h : Eld es) {x z : Nat} (hz : z ≤ x) : ∀ y, y ≤ es.length → isBelow es x y = true → climb es z y = climb es z x := by
  intro y
  induction y using Nat.strongRecOn with
  | ind y ih =>
    intro hy hb
    by_cases c : x < y
    · have e := h.el (t := y) (by omega) hy
      rw [isBelow_gt h c hy] at hb
      rw [climb_gt h (by omega) hy]
      exact ih _ e (by omega) hb
    · by_cases d : y = x
      · rw [d]
      · rw [isBelow_lt (by omega)] at hb; cases hb
theorem below_iff (h : Eld es) {x y z : Nat} (hz : z ≤ x) (hy : y ≤ es.length) (hb : isBelow es x y = true) : isBelow es z y = isBelow es z x := by
  unfold isBelow; rw [below_shift h hz y hy hb]
theorem below_le (h : Eld es) {x y : Nat} (hb : isBelow es x y = true) : x ≤ y := by
  by_cases c : y < x
  · rw [isBelow_lt c] at hb; cases hb
  · omega
theorem below_dep (h : Eld es) {x : Nat} : ∀ y, y ≤ es.length → isBelow es x y = true → dep es x ≤ dep es y ∧ (x < y → dep es x < dep es y) := by
  intro y
  induction y using Nat.strongRecOn with
  | ind y ih =>
    intro hy hb
    by_cases c : x < y
    · have e := h.el (t := y) (by omega) hy
      rw [isBelow_gt h c hy] at hb
      have := ih _ e (by omega) hb
      rw [dep_pos h (by omega) hy]
      omega
    · have d : y = x := by have := below_le h hb; omega
      subst d; exact ⟨Nat.le_refl _, fun q => absurd q (by omega)⟩
/-- two of one depth with a common thing below are one -/
theorem below_same (h : Eld es) {x z y : Nat} (hx : x ≤ es.length) (hz : z ≤ es.length) (hy : y ≤ es.length) (h1 : isBelow es x y = true) (h2 : isBelow es z y = true) (hd : dep es x ≤ dep es z) : isBelow es x z = true := by
  by_cases c : x ≤ z
  · rw [← below_iff h c hy h2]; exact h1
  · have q : isBelow es z x = true := by rw [← below_iff h (by omega) hy h1]; exact h2
    have := (below_dep h x hx q).2 (by omega)
    omega
theorem dep_lt (h : Eld es) : ∀ y, y ≤ es.length → dep es y ≤ y := by
  intro y
  induction y using Nat.strongRecOn with
  | ind y ih =>
    intro hy
    rcases Nat.eq_zero_or_pos y with z | z
    · subst z; rw [dep_zero]; omega
    · have l := h.el z hy
      rw [dep_pos h z hy]
      have := ih _ l (by omega)
      omega
def wt (ws : List Nat) (n : Nat) (p : Nat → Bool) : Nat := ((List.range n).map fun t => if p t then ws.getD t 0 else 0).sum
theorem wt_succ (ws : List Nat) (n : Nat) (p : Nat → Bool) : wt ws (n + 1) p = wt ws n p + (if p n then ws.getD n 0 else 0) := by
  unfold wt; rw [List.range_succ, List.map_append, List.sum_append]; simp
theorem wt_zero (ws : List Nat) (p : Nat → Bool) : wt ws 0 p = 0 := rfl
theorem wt_mono (ws : List Nat) {p q : Nat → Bool} : ∀ n, (∀ t, t < n → p t = true → q t = true) → wt ws n p ≤ wt ws n q
  | 0, _ => Nat.le_refl _
  | n + 1, h => by
    rw [wt_succ, wt_succ]
    have := wt_mono ws n fun t ht => h t (by omega)
    have := h n (by omega)
    by_cases c : p n = true
    · rw [if_pos c, if_pos (this c)]; omega
    · rw [if_neg c]; omega
theorem wt_or (ws : List Nat) (p q : Nat → Bool) : ∀ n, wt ws n (fun t => p t || q t) ≤ wt ws n p + wt ws n q
  | 0 => Nat.le_refl _
  | n + 1 => by
    rw [wt_succ, wt_succ, wt_succ]
    have := wt_or ws p q n
    cases p n <;> cases q n <;> simp <;> omega
theorem wt_split (ws : List Nat) {p q r : Nat → Bool} : ∀ n, (∀ t, t < n → p t = true → r t = true) → (∀ t, t < n → q t = true → r t = true) → (∀ t, t < n → p t = true → q t = true → False) → wt ws n p + wt ws n q ≤ wt ws n r
  | 0, _, _, _ => Nat.le_refl _
  | n + 1, h1, h2, h3 => by
    rw [wt_succ, wt_succ, wt_succ]
    have := wt_split ws n (fun t ht => h1 t (by omega)) (fun t ht => h2 t (by omega)) fun t ht => h3 t (by omega)
    have a := h1 n (by omega)
    have b := h2 n (by omega)
    have c := h3 n (by omega)
    cases hp : p n <;> cases hq : q n
    · simp; omega
    · rw [b hq]; simp; omega
    · rw [a hp]; simp; omega
    · exact (c hp hq).elim
theorem wt_none (ws : List Nat) {p : Nat → Bool} (n : Nat) (h : ∀ t, t < n → p t = false) : wt ws n p = 0 := by
  have : wt ws n p ≤ wt ws n fun _ => false := wt_mono ws n fun t ht q => by rw [h t ht] at q; cases q
  have z : ∀ m, wt ws m (fun _ => false) = 0 := fun m => by
    induction m with
    | zero => rfl
    | succ m ih => rw [wt_succ, ih]; rfl
  rw [z] at this; omega
theorem sum_filter (f : Nat → Nat) (p : Nat → Bool) : ∀ l : List Nat, ((l.filter p).map f).sum = (l.map fun t => if p t then f t else 0).sum
  | [] => rfl
  | a :: l => by
    rw [List.filter_cons]
    by_cases c : p a = true
    · rw [if_pos c, List.map_cons, List.map_cons, List.sum_cons, List.sum_cons, sum_filter f p l, if_pos c]
    · rw [if_neg c, List.map_cons, List.sum_cons, sum_filter f p l, if_neg c]; simp
theorem worth_wt (es ws : List Nat) (x : Nat) : worth es ws x = wt ws (es.length + 1) (isBelow es x) := by
  unfold worth below belowTo wt; exact sum_filter _ _ _
def free (es : List Nat) (d : Nat) (gone : List Nat) : List Nat := (List.range (es.length + 1)).filter fun t => decide (0 < t) && dep es t == d && !gone.contains t
theorem mem_free {d t : Nat} {gone : List Nat} : t ∈ free es d gone ↔ (t ≤ es.length ∧ 0 < t) ∧ dep es t = d ∧ t ∉ gone := by
  unfold free
  rw [List.mem_filter, List.mem_range, Bool.and_eq_true, Bool.and_eq_true, Nat.lt_succ_iff]
  simp only [decide_eq_true_eq, beq_iff_eq, Bool.not_eq_true', List.contains_eq_mem, decide_eq_false_iff_not]
  exact ⟨fun ⟨a, ⟨b, c⟩, d⟩ => ⟨⟨a, b⟩, c, d⟩, fun ⟨⟨a, b⟩, c, d⟩ => ⟨a, ⟨b, c⟩, d⟩⟩
/-- f: how many depths are looked at -/
def best (es ws : List Nat) : Nat → Nat → List Nat → Nat
  | 0, _, _ => 0
  | f + 1, d, gone => (free es d gone).foldl (fun b x => max b (worth es ws x + best es ws f (d + 1) (gone ++ below es x))) 0
theorem foldl_max_ge (g : Nat → Nat) : ∀ (l : List Nat) (b : Nat), b ≤ l.foldl (fun b x => max b (g x)) b ∧ ∀ x ∈ l, g x ≤ l.foldl (fun b x => max b (g x)) b
  | [], b => ⟨Nat.le_refl _, fun _ h => nomatch h⟩
  | a :: l, b => by
    have := foldl_max_ge g l (max b (g a))
    refine ⟨by rw [List.foldl_cons]; omega, fun x hx => ?_⟩
    rw [List.foldl_cons]
    rcases List.mem_cons.mp hx with rfl | hx
    · omega
    · exact this.2 x hx
theorem foldl_max_le (g : Nat → Nat) (m : Nat) : ∀ (l : List Nat) (b : Nat), b ≤ m → (∀ x ∈ l, g x ≤ m) → l.foldl (fun b x => max b (g x)) b ≤ m
  | [], _, h, _ => h
  | a :: l, b, h, q => by
    rw [List.foldl_cons]
    exact foldl_max_le g m l _ (by have := q a List.mem_cons_self; omega) fun x hx => q x (List.mem_cons_of_mem _ hx)
theorem best_ge (es ws : List Nat) {f d x : Nat} {gone : List Nat} (hx : x ∈ free es d gone) : worth es ws x + best es ws f (d + 1) (gone ++ below es x) ≤ best es ws (f + 1) d gone :=
  (foldl_max_ge (fun x => worth es ws x + best es ws f (d + 1) (gone ++ below es x)) _ 0).2 x hx
theorem best_le (es ws : List Nat) {f d m : Nat} {gone : List Nat} (h : ∀ x ∈ free es d gone, worth es ws x + best es ws f (d + 1) (gone ++ below es x) ≤ m) : best es ws (f + 1) d gone ≤ m :=
  foldl_max_le (fun x => worth es ws x + best es ws f (d + 1) (gone ++ below es x)) m _ 0 (Nat.zero_le _) h
theorem mem_below {x y : Nat} : y ∈ below es x ↔ y ≤ es.length ∧ isBelow es x y = true := by
  unfold below; rw [mem_belowTo, Nat.lt_succ_iff]
end TM
namespace TM
variable {es : List Nat}
/-- more depths than there are add nothing -/
theorem best_fuel (h : Eld es) (ws : List Nat) : ∀ (f d : Nat) (gone : List Nat), es.length < d + f → 0 < d → best es ws (f + 1) d gone = best es ws f d gone
  | 0, d, gone, hl, h0 => by
    have : free es d gone = [] := by
      cases q : free es d gone with
      | nil => rfl
      | cons y r =>
        have hy : y ∈ free es d gone := by rw [q]; exact List.mem_cons_self
        obtain ⟨⟨y1, _⟩, y2, _⟩ := mem_free.mp hy
        have := dep_lt h y y1
        omega
    show (free es d gone).foldl _ 0 = 0
    rw [this]; rfl
  | f + 1, d, gone, hl, h0 => by
    show (free es d gone).foldl _ 0 = (free es d gone).foldl _ 0
    have : (fun b x => max b (worth es ws x + best es ws (f + 1) (d + 1) (gone ++ below es x))) = fun b x => max b (worth es ws x + best es ws f (d + 1) (gone ++ below es x)) := by
      funext b x
      rw [best_fuel h ws f (d + 1) _ (by omega) (by omega)]
    rw [this]
end TM
namespace TM
variable {es : List Nat}
def spread (es b shut : List Nat) : List Nat := (List.range (es.length + 1)).filter fun t => decide (0 < t) && b.contains (el es t) && !b.contains t && !shut.contains t
theorem mem_spread {b shut : List Nat} {t : Nat} : t ∈ spread es b shut ↔ t ≤ es.length ∧ 0 < t ∧ el es t ∈ b ∧ t ∉ b ∧ t ∉ shut := by
  unfold spread
  rw [List.mem_filter, List.mem_range, Nat.lt_succ_iff]
  simp [and_assoc]
/-- what has been shut off in the first k minutes -/
def shutAt (plan : List (Option Nat)) (k : Nat) : List Nat := (plan.take k).filterMap id
theorem mem_shutAt {plan : List (Option Nat)} {k q : Nat} : q ∈ shutAt plan k ↔ ∃ i, i < k ∧ plan[i]? = some (some q) := by
  unfold shutAt
  rw [List.mem_filterMap]
  constructor
  · rintro ⟨a, ha, e⟩
    obtain ⟨i, hi, e2⟩ := List.mem_iff_getElem.mp ha
    have e' : a = some q := e
    rw [List.length_take] at hi
    refine ⟨i, by omega, ?_⟩
    rw [List.getElem_take] at e2
    rw [List.getElem?_eq_getElem (by omega), e2, e']
  · rintro ⟨i, hi, e⟩
    refine ⟨some q, ?_, rfl⟩
    obtain ⟨h1, h2⟩ := List.getElem?_eq_some_iff.mp e
    refine List.mem_iff_getElem.mpr ⟨i, by rw [List.length_take]; omega, ?_⟩
    rw [List.getElem_take, h2]
/-- what burns behind k minutes -/
def burn (es : List Nat) (plan : List (Option Nat)) : Nat → List Nat
  | 0 => [0]
  | k + 1 => burn es plan k ++ spread es (burn es plan k) (shutAt plan (k + 1))
theorem burn_mono {plan : List (Option Nat)} {t : Nat} : ∀ {j k : Nat}, j ≤ k → t ∈ burn es plan j → t ∈ burn es plan k
  | j, 0, h, q => by
    have : j = 0 := by omega
    rw [this] at q; exact q
  | j, k + 1, h, q => by
    by_cases e : j = k + 1
    · rw [e] at q; exact q
    · exact List.mem_append_left _ (burn_mono (by omega) q)
theorem burn_dep (h : Eld es) {plan : List (Option Nat)} : ∀ (k t : Nat), t ∈ burn es plan k → t ≤ es.length ∧ dep es t ≤ k
  | 0, t, q => by
    have : t = 0 := by simpa [burn] using q
    subst this; rw [dep_zero]; omega
  | k + 1, t, q => by
    rcases List.mem_append.mp q with q | q
    · have := burn_dep h k t q; omega
    · obtain ⟨a, b, c, _, _⟩ := mem_spread.mp q
      have := burn_dep h k _ c
      rw [dep_pos h b a]; omega
/-- what does not burn in its time has something above it that was shut off in time -/
theorem burns_or (h : Eld es) (plan : List (Option Nat)) : ∀ t, t ≤ es.length → t ∈ burn es plan (dep es t) ∨ ∃ a i, a ≤ es.length ∧ plan[i]? = some (some a) ∧ i + 1 ≤ dep es a ∧ isBelow es a t = true := by
  intro t
  induction t using Nat.strongRecOn with
  | ind t ih =>
    intro ht
    rcases Nat.eq_zero_or_pos t with z | z
    · subst z; rw [dep_zero]; exact .inl (by simp [burn])
    · have l := h.el z ht
      have dp := dep_pos h z ht
      have up : ∀ a, isBelow es a (el es t) = true → isBelow es a t = true := fun a q => by
        have := below_le h q
        rw [isBelow_gt h (by omega) ht]; exact q
      rcases ih _ l (by omega) with q | ⟨a, i, a1, a2, a3, a4⟩
      · by_cases c : t ∈ burn es plan (dep es (el es t))
        · exact .inl (burn_mono (by omega) c)
        · by_cases d : t ∈ shutAt plan (dep es (el es t) + 1)
          · obtain ⟨i, i1, i2⟩ := mem_shutAt.mp d
            exact .inr ⟨t, i, ht, i2, by omega, isBelow_self es t⟩
          · left
            rw [dp]
            exact List.mem_append_right _ (mem_spread.mpr ⟨ht, z, q, c, d⟩)
      · exact .inr ⟨a, i, a1, a2, a3, up a a4⟩
/-- what a plan saves, if the fire is let go on for k minutes -/
def savedAt (es ws : List Nat) (plan : List (Option Nat)) (k : Nat) : Nat := wt ws (es.length + 1) fun t => !(burn es plan k).contains t
def LevelFrom (es : List Nat) : Nat → List Nat → List Nat → Prop
  | d, gone, [] => free es d gone = []
  | d, gone, p :: r => p ∈ free es d gone ∧ LevelFrom es (d + 1) (gone ++ below es p) r
theorem LevelFrom.at {d : Nat} : ∀ {gone plan : List Nat} {d : Nat}, LevelFrom es d gone plan → ∀ (i p : Nat), plan[i]? = some p → p ≤ es.length ∧ 0 < p ∧ dep es p = d + i ∧ p ∉ gone
  | gone, [], d, _, i, p, e => by simp at e
  | gone, q :: r, d, ⟨h1, h2⟩, 0, p, e => by
    simp at e; subst e
    obtain ⟨⟨a, b⟩, c, d⟩ := mem_free.mp h1
    exact ⟨a, b, by omega, d⟩
  | gone, q :: r, d, ⟨h1, h2⟩, i + 1, p, e => by
    have := LevelFrom.at (d := 0) h2 i p (by simpa using e)
    refine ⟨this.1, this.2.1, by omega, fun z => this.2.2.2 (List.mem_append_left _ z)⟩
/-- later things are not below earlier ones -/
theorem LevelFrom.apart : ∀ {gone plan : List Nat} {d : Nat}, LevelFrom es d gone plan → ∀ (i j p q : Nat), i < j → plan[i]? = some p → plan[j]? = some q → isBelow es p q = false
  | gone, [], d, _, i, j, p, q, _, e, _ => by simp at e
  | gone, x :: r, d, ⟨h1, h2⟩, 0, j, p, q, hij, e1, e2 => by
    simp at e1; subst e1
    obtain ⟨j', rfl⟩ : ∃ j', j = j' + 1 := ⟨j - 1, by omega⟩
    have := LevelFrom.at (d := 0) h2 j' q (by simpa using e2)
    cases c : isBelow es x q with
    | false => rfl
    | true => exact absurd (List.mem_append_right _ (mem_below.mpr ⟨this.1, c⟩)) this.2.2.2
  | gone, x :: r, d, ⟨h1, h2⟩, i + 1, j, p, q, hij, e1, e2 => by
    obtain ⟨j', rfl⟩ : ∃ j', j = j' + 1 := ⟨j - 1, by omega⟩
    exact LevelFrom.apart h2 i j' p q (by omega) (by simpa using e1) (by simpa using e2)
theorem level_sum (h : Eld es) (ws : List Nat) : ∀ {plan : List Nat} {d : Nat} {gone : List Nat}, LevelFrom es d gone plan → wt ws (es.length + 1) (fun t => plan.any fun p => isBelow es p t) = (plan.map (worth es ws)).sum
  | [], _, _, _ => wt_none ws _ fun t _ => rfl
  | p :: r, d, gone, L => by
    obtain ⟨h1, h2⟩ := id L
    have ih := level_sum h ws h2
    rw [List.map_cons, List.sum_cons, ← ih, worth_wt]
    have e : (fun t => (p :: r).any fun p => isBelow es p t) = fun t => isBelow es p t || r.any fun p => isBelow es p t := by funext t; rw [List.any_cons]
    rw [e]
    refine Nat.le_antisymm (wt_or ws _ _ _) (wt_split ws _ (fun t _ q => by simp [q]) (fun t _ q => by simp only [q, Bool.or_true]) fun t ht q1 q2 => ?_)
    rw [List.any_eq_true] at q2
    obtain ⟨x, hx, q3⟩ := q2
    obtain ⟨j, hj, e⟩ := List.mem_iff_getElem.mp hx
    have ex : (p :: r)[j + 1]? = some x := by rw [List.getElem?_cons_succ, List.getElem?_eq_getElem hj, e]
    have a := LevelFrom.at (d := 0) L 0 p rfl
    have b := LevelFrom.at (d := 0) L (j + 1) x ex
    have c := LevelFrom.apart L 0 (j + 1) p x (by omega) rfl ex
    have := below_same h a.1 b.1 (by omega) q1 q3 (by omega)
    rw [c] at this; cases this
/-- nothing below what a level plan shuts off ever burns -/
theorem level_never (h : Eld es) {plan : List Nat} (L : LevelFrom es 1 [] plan) : ∀ (k t : Nat), t ∈ burn es (plan.map some) k → ∀ (i p : Nat), plan[i]? = some p → isBelow es p t = false
  | 0, t, q, i, p, e => by
    have : t = 0 := by simpa [burn] using q
    subst this
    have a := LevelFrom.at (d := 0) L i p e
    exact isBelow_lt a.2.1
  | k + 1, t, q, i, p, e => by
    rcases List.mem_append.mp q with q | q
    · exact level_never h L k t q i p e
    · obtain ⟨t1, t0, t2, t3, t4⟩ := mem_spread.mp q
      have a := LevelFrom.at (d := 0) L i p e
      have dk := (burn_dep h k _ t2).2
      have dt := dep_pos h t0 t1
      cases c : isBelow es p t with
      | false => rfl
      | true =>
        exfalso
        have pd := (below_dep h t t1 c).1
        by_cases et : p = t
        · subst et
          refine t4 (mem_shutAt.mpr ⟨i, by omega, ?_⟩)
          rw [List.getElem?_map, e]; rfl
        · have := below_le h c
          rw [isBelow_gt h (by omega) t1] at c
          rw [level_never h L k _ t2 i p e] at c; cases c
theorem level_saved (h : Eld es) (ws : List Nat) {plan : List Nat} (L : LevelFrom es 1 [] plan) {k : Nat} (hk : es.length ≤ k) : savedAt es ws (plan.map some) k = (plan.map (worth es ws)).sum := by
  rw [← level_sum h ws L]
  unfold savedAt
  refine Nat.le_antisymm (wt_mono ws _ fun t ht q => ?_) (wt_mono ws _ fun t ht q => ?_)
  · have ht' : t ≤ es.length := by omega
    have nb : t ∉ burn es (plan.map some) k := by simpa using q
    rcases burns_or h (plan.map some) t ht' with z | ⟨a, i, a1, a2, a3, a4⟩
    · have := dep_lt h t ht'
      exact absurd (burn_mono (by omega) z) nb
    · rw [List.getElem?_map] at a2
      cases e : plan[i]? with
      | none => rw [e] at a2; cases a2
      | some p =>
        rw [e] at a2
        have : p = a := by simpa using a2
        subst this
        rw [List.any_eq_true]
        exact ⟨p, List.mem_of_getElem? e, a4⟩
  · rw [List.any_eq_true] at q
    obtain ⟨p, hp, q⟩ := q
    obtain ⟨i, hi, e⟩ := List.mem_iff_getElem.mp hp
    cases c : (burn es (plan.map some) k).contains t with
    | false => rfl
    | true =>
      have := level_never h L k t (by simpa using c) i p (by rw [List.getElem?_eq_getElem hi, e])
      rw [this] at q; cases q
end TM
namespace TM
variable {es : List Nat}
def row (es : List Nat) (plan : List (Option Nat)) : Nat → List Nat
  | 0 => [0]
  | k + 1 => spread es (burn es plan k) (shutAt plan (k + 1))
theorem burn_succ (plan : List (Option Nat)) (k : Nat) : burn es plan (k + 1) = burn es plan k ++ row es plan (k + 1) := rfl
theorem row_new {plan : List (Option Nat)} {k t : Nat} (h : t ∈ row es plan (k + 1)) : t ≤ es.length ∧ 0 < t ∧ el es t ∈ burn es plan k ∧ t ∉ burn es plan k ∧ t ∉ shutAt plan (k + 1) := mem_spread.mp h
theorem shut_mono {plan : List (Option Nat)} {j k t : Nat} (hj : j ≤ k) (h : t ∈ shutAt plan j) : t ∈ shutAt plan k := by
  obtain ⟨i, hi, e⟩ := mem_shutAt.mp h
  exact mem_shutAt.mpr ⟨i, by omega, e⟩
/-- a thing catches fire at the minute of its depth, or never -/
theorem row_dep (h : Eld es) (plan : List (Option Nat)) : ∀ (k t : Nat), t ∈ row es plan k → dep es t = k
  | 0, t, ht => by
    have : t = 0 := by simpa [row] using ht
    subst this
    exact dep_zero es
  | k + 1, t, ht => by
    obtain ⟨h1, h2, h3, h4, h5⟩ := row_new ht
    rw [dep_pos h h2 h1]
    have : el es t ∈ row es plan k := by
      cases k with
      | zero => exact h3
      | succ j =>
        rw [burn_succ] at h3
        rcases List.mem_append.mp h3 with h3 | h3
        · exfalso
          apply h4
          rw [burn_succ]
          refine List.mem_append_right _ (mem_spread.mpr ⟨h1, h2, h3, fun z => h4 (by rw [burn_succ]; exact List.mem_append_left _ z), fun z => h5 (shut_mono (by omega) z)⟩)
        · exact h3
    rw [row_dep h plan k _ this]
theorem row_late (h : Eld es) (plan : List (Option Nat)) {k : Nat} (hk : es.length < k) : row es plan k = [] := by
  cases q : row es plan k with
  | nil => rfl
  | cons t r =>
    have ht : t ∈ row es plan k := by rw [q]; exact List.mem_cons_self
    have d := row_dep h plan k t ht
    cases k with
    | zero => omega
    | succ j =>
      have l := (row_new ht).1
      have := dep_lt h t l
      omega
/-- the rows up to the last minute at which any thing catches fire -/
def IsRows (es : List Nat) (plan : List (Option Nat)) (rs : List (List Nat)) : Prop :=
  0 < rs.length ∧ (∀ i, i < rs.length → rs.getD i [] = row es plan i) ∧ row es plan (rs.length - 1) ≠ [] ∧ ∀ j, rs.length ≤ j → row es plan j = []
/-- the numbers of a plan as things -/
def tn (plan : List (Option Int)) : List (Option Nat) := plan.map (Option.map Int.toNat)
/-- what is wrong at minute k + 1: 1 no such thing, 2 it burns or is shut off already, 0 nothing -/
def flt (es : List Nat) (plan : List (Option Int)) (k : Nat) : Nat :=
  match plan[k]? with
  | some (some i) => if 0 ≤ i ∧ i ≤ (es.length : Nat) then (if i.toNat ∈ burn es (tn plan) k ∨ i.toNat ∈ shutAt (tn plan) k then 2 else 0) else 1
  | _ => 0
theorem shut_succ_none {plan : List (Option Int)} {k : Nat} (h : plan[k]? = none ∨ plan[k]? = some none) : shutAt (tn plan) (k + 1) = shutAt (tn plan) k := by
  unfold shutAt
  rw [List.take_add_one]
  have : (tn plan)[k]?.toList.filterMap id = [] := by
    unfold tn
    rw [List.getElem?_map]
    rcases h with h | h <;> rw [h] <;> rfl
  rw [List.filterMap_append, this, List.append_nil]
theorem shut_succ_some {plan : List (Option Int)} {k : Nat} {i : Int} (h : plan[k]? = some (some i)) : shutAt (tn plan) (k + 1) = shutAt (tn plan) k ++ [i.toNat] := by
  unfold shutAt
  rw [List.take_add_one]
  have : (tn plan)[k]?.toList.filterMap id = [i.toNat] := by
    unfold tn
    rw [List.getElem?_map, h]; rfl
  rw [List.filterMap_append, this]
def spreadTo (es b shut : List Nat) (m : Nat) : List Nat := (List.range m).filter fun t => decide (0 < t) && b.contains (el es t) && !b.contains t && !shut.contains t
theorem spreadTo_all (es b shut : List Nat) : spreadTo es b shut (es.length + 1) = spread es b shut := rfl
theorem spreadTo_one (es b shut : List Nat) : spreadTo es b shut 1 = [] := by
  unfold spreadTo
  rw [show List.range 1 = [0] from rfl]
  simp
theorem spreadTo_succ (es b shut : List Nat) (m : Nat) : spreadTo es b shut (m + 1) = spreadTo es b shut m ++ (if decide (0 < m) && b.contains (el es m) && !b.contains m && !shut.contains m then [m] else []) := by
  unfold spreadTo
  rw [List.range_succ, List.filter_append]
  congr 1
  rw [List.filter_cons]
  split <;> simp
theorem spreadTo_length (es b shut : List Nat) (m : Nat) : (spreadTo es b shut m).length ≤ m := by
  unfold spreadTo
  exact Nat.le_trans (List.length_filter_le _ _) (by rw [List.length_range]; exact Nat.le_refl _)
theorem burn_length (plan : List (Option Nat)) : ∀ k, (burn es plan k).length ≤ 1 + k * (es.length + 1)
  | 0 => by show [0].length ≤ _; simp
  | k + 1 => by
    rw [burn_succ, List.length_append]
    have h1 := burn_length plan k
    have h2 : (row es plan (k + 1)).length ≤ es.length + 1 := spreadTo_length es _ _ (es.length + 1)
    rw [Nat.succ_mul]
    omega
/-- the new ones are those of the longer list that the shorter one lacks -/
theorem filter_new {b r : List Nat} (h : ∀ t ∈ r, t ∉ b) : (b ++ r).filter (fun t => !b.contains t) = r := by
  rw [List.filter_append]
  have e1 : b.filter (fun t => !b.contains t) = [] := by
    rw [List.filter_eq_nil_iff]
    intro t ht
    simp [ht]
  have e2 : r.filter (fun t => !b.contains t) = r := by
    rw [List.filter_eq_self]
    intro t ht
    simp [h t ht]
  rw [e1, e2, List.nil_append]
end TM
namespace TM
variable {es : List Nat}
/-- a plan of things alone, as numbers -/
def zplan (plan : List Nat) : List (Option Int) := plan.map fun n : Nat => some (n : Int)
theorem tn_zplan (plan : List Nat) : tn (zplan plan) = plan.map some := by
  unfold tn zplan
  rw [List.map_map]
  rfl
theorem zplan_get (plan : List Nat) (j : Nat) : (zplan plan)[j]? = (plan[j]?).map fun n : Nat => some (n : Int) := List.getElem?_map ..
/-- a plan that shuts off at each minute a thing of that depth has no fault -/
theorem level_ok (h : Eld es) {plan : List Nat} (L : LevelFrom es 1 [] plan) (j : Nat) : flt es (zplan plan) j = 0 := by
  unfold flt
  rw [zplan_get]
  cases q : plan[j]? with
  | none => rfl
  | some p =>
    obtain ⟨h1, h2, h3, _⟩ := LevelFrom.at (d := 1) L j p q
    show (if 0 ≤ (p : Int) ∧ (p : Int) ≤ (es.length : Nat) then (if (p : Int).toNat ∈ burn es (tn (zplan plan)) j ∨ (p : Int).toNat ∈ shutAt (tn (zplan plan)) j then 2 else 0) else 1) = 0
    rw [if_pos ⟨by omega, by omega⟩, Int.toNat_natCast, if_neg]
    rintro (z | z)
    · have := (burn_dep h j p z).2
      omega
    · obtain ⟨i, hi, e⟩ := mem_shutAt.mp z
      rw [tn_zplan, List.getElem?_map] at e
      cases qi : plan[i]? with
      | none => rw [qi] at e; cases e
      | some p' =>
        rw [qi] at e
        have e' : p' = p := by simpa using e
        subst e'
        have := (LevelFrom.at (d := 1) L i p' qi).2.2.1
        omega
theorem best_more (h : Eld es) (ws : List Nat) : ∀ k, best es ws (es.length + k) 1 [] = best es ws es.length 1 []
  | 0 => rfl
  | k + 1 => by rw [← Nat.add_assoc, best_fuel h ws (es.length + k) 1 [] (by omega) (by decide), best_more h ws k]
theorem best_any (h : Eld es) (ws : List Nat) {f : Nat} (hf : es.length ≤ f) : best es ws f 1 [] = best es ws es.length 1 [] := by
  have := best_more h ws (f - es.length)
  rwa [Nat.add_sub_cancel' hf] at this
/-- as many minutes as there are depths -/
theorem level_len (h : Eld es) {plan : List Nat} (L : LevelFrom es 1 [] plan) : plan.length ≤ es.length := by
  cases hp : plan.length with
  | zero => exact Nat.zero_le _
  | succ m =>
    have hm : m < plan.length := by omega
    obtain ⟨h1, h2, h3, _⟩ := LevelFrom.at (d := 1) L m plan[m] (List.getElem?_eq_getElem hm)
    have := dep_lt h _ h1
    omega
end TM
namespace TM
variable {es : List Nat}
theorem mem_burn_row {plan : List (Option Nat)} {t : Nat} : ∀ {k : Nat}, t ∈ burn es plan k ↔ ∃ j, j ≤ k ∧ t ∈ row es plan j
  | 0 => ⟨fun h => ⟨0, Nat.le_refl _, h⟩, fun ⟨j, hj, h⟩ => by
      have : j = 0 := by omega
      subst this; exact h⟩
  | k + 1 => by
    rw [burn_succ, List.mem_append, mem_burn_row (k := k)]
    constructor
    · rintro (⟨j, hj, h⟩ | h)
      · exact ⟨j, by omega, h⟩
      · exact ⟨k + 1, Nat.le_refl _, h⟩
    · rintro ⟨j, hj, h⟩
      by_cases e : j = k + 1
      · subst e; exact .inr h
      · exact .inl ⟨j, by omega, h⟩
theorem row_stop (h : Eld es) (plan : List (Option Nat)) {k : Nat} (hk : row es plan k = []) : row es plan (k + 1) = [] := by
  cases q : row es plan (k + 1) with
  | nil => rfl
  | cons t r =>
    have ht : t ∈ row es plan (k + 1) := by rw [q]; exact List.mem_cons_self
    have hd := row_dep h plan _ t ht
    obtain ⟨h1, h2, h3, h4, h5⟩ := row_new ht
    obtain ⟨j, hj, hm⟩ := mem_burn_row.mp h3
    have dj := row_dep h plan j _ hm
    rw [dep_pos h h2 h1] at hd
    have : j = k := by omega
    subst this
    rw [hk] at hm; cases hm
theorem row_stops (h : Eld es) (plan : List (Option Nat)) {k : Nat} (hk : row es plan k = []) : ∀ j, k ≤ j → row es plan j = []
  | 0, hj => by
    have : k = 0 := by omega
    subst this; exact hk
  | j + 1, hj => by
    by_cases e : k = j + 1
    · subst e; exact hk
    · exact row_stop h plan (row_stops h plan hk j (by omega))
theorem wt_add (ws : List Nat) {p q : Nat → Bool} : ∀ n, (∀ t, t < n → p t = true → q t = false) → wt ws n (fun t => p t || q t) = wt ws n p + wt ws n q
  | 0, _ => rfl
  | n + 1, h => by
    rw [wt_succ, wt_succ, wt_succ, wt_add ws n fun t ht => h t (by omega)]
    have := h n (by omega)
    cases hp : p n
    · cases q n <;> simp <;> omega
    · rw [this hp]; simp; omega
theorem wt_congr (ws : List Nat) {p q : Nat → Bool} (n : Nat) (h : ∀ t, t < n → p t = q t) : wt ws n p = wt ws n q :=
  Nat.le_antisymm (wt_mono ws n fun t ht e => by rw [← h t ht]; exact e) (wt_mono ws n fun t ht e => by rw [h t ht]; exact e)
theorem wt_all (ws : List Nat) : wt ws ws.length (fun _ => true) = ws.sum := by
  unfold wt
  congr 1
  refine List.ext_getElem (by simp) fun i h1 h2 => ?_
  simp only [List.getElem_map, List.getElem_range, if_true, List.getD_eq_getElem?_getD, List.getElem?_eq_getElem h2, Option.getD_some]
theorem wt_zeroOnly (ws : List Nat) : ∀ n, wt ws (n + 1) (fun t => [0].contains t) = ws.getD 0 0
  | 0 => by rw [wt_succ, wt_zero]; simp
  | n + 1 => by rw [wt_succ, wt_zeroOnly ws n]; simp
theorem wt_row (es ws : List Nat) (plan : List (Option Nat)) : ∀ k, ((row es plan k).map fun t => ws.getD t 0).sum = wt ws (es.length + 1) fun t => (row es plan k).contains t
  | 0 => by
    show ([0].map fun t => ws.getD t 0).sum = wt ws (es.length + 1) fun t => [0].contains t
    rw [wt_zeroOnly]; simp
  | k + 1 => by
    have e : ((row es plan (k + 1)).map fun t => ws.getD t 0).sum = wt ws (es.length + 1) _ := sum_filter (fun t => ws.getD t 0) (fun t => decide (0 < t) && (burn es plan k).contains (el es t) && !(burn es plan k).contains t && !(shutAt plan (k + 1)).contains t) (List.range (es.length + 1))
    rw [e]
    refine wt_congr ws _ fun t ht => ?_
    rw [Bool.eq_iff_iff]
    have := @mem_spread es (burn es plan k) (shutAt plan (k + 1)) t
    show _ ↔ (spread es (burn es plan k) (shutAt plan (k + 1))).contains t = true
    have e2 : (spread es (burn es plan k) (shutAt plan (k + 1))).contains t = true ↔ t ∈ spread es (burn es plan k) (shutAt plan (k + 1)) := by simp
    rw [e2, this]
    have : t ≤ es.length := by omega
    simp [this, and_assoc]
def rsum (es ws : List Nat) (plan : List (Option Nat)) (k : Nat) : Nat := ((row es plan k).map fun t => ws.getD t 0).sum
theorem burn_sum (es ws : List Nat) (plan : List (Option Nat)) : ∀ k, wt ws (es.length + 1) (fun t => (burn es plan k).contains t) = ((List.range (k + 1)).map (rsum es ws plan)).sum
  | 0 => by
    show wt ws (es.length + 1) (fun t => (row es plan 0).contains t) = _
    rw [← wt_row]; simp [rsum]
  | k + 1 => by
    rw [List.range_succ, List.map_append, List.sum_append, ← burn_sum es ws plan k]
    have e : wt ws (es.length + 1) (fun t => (burn es plan (k + 1)).contains t) = wt ws (es.length + 1) (fun t => (burn es plan k).contains t || (row es plan (k + 1)).contains t) := wt_congr ws _ fun t _ => by
      rw [burn_succ]; simp
    rw [e, wt_add, ← wt_row]
    · show _ = _ + (rsum es ws plan (k + 1) + 0)
      rw [Nat.add_zero]; rfl
    · intro t _ hp
      cases hq : (row es plan (k + 1)).contains t with
      | false => rfl
      | true =>
        have h1 : t ∈ row es plan (k + 1) := by simpa using hq
        have h2 : t ∈ burn es plan k := by simpa using hp
        exact absurd h2 (row_new h1).2.2.2.1
theorem burn_end {plan : List (Option Nat)} {m : Nat} (hm : ∀ j, m < j → row es plan j = []) : ∀ k, m ≤ k → burn es plan k = burn es plan m
  | 0, h => by
    have : m = 0 := by omega
    rw [this]
  | k + 1, h => by
    by_cases e : m = k + 1
    · rw [e]
    · rw [burn_succ, hm (k + 1) (by omega), List.append_nil, burn_end hm k (by omega)]
theorem saved_rows {plan : List (Option Nat)} {rs : List (List Nat)} {ws : List Nat} {k : Nat} (h : IsRows es plan rs) (hw : ws.length = es.length + 1) (hk : rs.length - 1 ≤ k) :
    (rs.map fun r => (r.map fun t => ws.getD t 0).sum).sum + savedAt es ws plan k = ws.sum := by
  obtain ⟨h0, h1, h2, h3⟩ := h
  have e1 : rs = (List.range (rs.length - 1 + 1)).map (row es plan) := by
    refine List.ext_getElem (by rw [List.length_map, List.length_range]; omega) fun i a b => ?_
    have := h1 i a
    rw [List.getD_eq_getElem?_getD, List.getElem?_eq_getElem a] at this
    simpa using this
  have e2 : (rs.map fun r => (r.map fun t => ws.getD t 0).sum).sum = wt ws (es.length + 1) fun t => (burn es plan k).contains t := by
    rw [burn_end (m := rs.length - 1) (fun j hj => h3 j (by omega)) k hk, burn_sum, e1, List.map_map, List.length_map, List.length_range, Nat.add_sub_cancel]
    rfl
  rw [e2]
  unfold savedAt
  rw [← wt_add, ← hw, ← wt_all]
  · exact wt_congr ws _ fun t _ => by cases (burn es plan k).contains t <;> rfl
  · intro t _ hp
    simp only [hp]; rfl
/-- the loop's end: the first m rows are not empty, the others are -/
theorem isRows_of (h : Eld es) {plan : List (Option Nat)} {m n : Nat} (h0 : 0 < m) (h1 : ∀ j, j < m → row es plan j ≠ []) (h2 : ∀ j, m ≤ j → j ≤ n → row es plan j = []) (hn : es.length ≤ n) : IsRows es plan ((List.range m).map (row es plan)) := by
  have hl : ((List.range m).map (row es plan)).length = m := by simp
  refine ⟨by omega, fun i hi => ?_, by rw [hl]; exact h1 _ (by omega), fun j hj => ?_⟩
  · rw [hl] at hi
    rw [List.getD_eq_getElem?_getD, List.getElem?_map, List.getElem?_range hi]; rfl
  · by_cases c : j ≤ n
    · exact h2 j (by omega) c
    · exact row_late h plan (by omega)
/-- one turn more -/
theorem rows_turn (h : Eld es) {plan : List (Option Nat)} {m i : Nat} (hm : m ≤ i + 1) (h2 : ∀ j, m ≤ j → j ≤ i → row es plan j = []) (hne : row es plan (i + 1) ≠ []) : m = i + 1 := by
  by_cases c : m = i + 1
  · exact c
  · exact absurd (row_stops h plan (h2 m (Nat.le_refl _) (by omega)) (i + 1) (by omega)) hne
theorem rows_len {plan : List (Option Nat)} {rs : List (List Nat)} (h : Eld es) (r : IsRows es plan rs) : rs.length - 1 ≤ es.length := by
  obtain ⟨h0, h1, h2, h3⟩ := r
  by_cases c : rs.length - 1 ≤ es.length
  · exact c
  · exact absurd (row_late h plan (by omega)) h2
end TM
namespace TM
variable {es : List Nat}
/-- all below the things of a plan -/
def goneOf (es plan : List Nat) : List Nat := plan.flatMap (below es)
theorem goneOf_snoc (es plan : List Nat) (x : Nat) : goneOf es (plan ++ [x]) = goneOf es plan ++ below es x := by
  unfold goneOf; rw [List.flatMap_append]; simp
theorem goneOf_len (es : List Nat) : ∀ plan : List Nat, (goneOf es plan).length ≤ plan.length * (es.length + 1)
  | [] => Nat.zero_le _
  | x :: r => by
    have h1 : (below es x).length ≤ es.length + 1 := belowTo_length es x (es.length + 1)
    have h2 := goneOf_len es r
    show (below es x ++ goneOf es r).length ≤ (r.length + 1) * (es.length + 1)
    rw [List.length_append, Nat.succ_mul]; omega
theorem free_filter (es : List Nat) (d : Nat) (gone : List Nat) : (free es d []).filter (fun t => !gone.contains t) = free es d gone := by
  unfold free
  rw [List.filter_filter]
  congr 1
  funext t
  rw [Bool.eq_iff_iff]
  simp
  constructor
  · rintro ⟨a, b, c⟩; exact ⟨⟨b, c⟩, a⟩
  · rintro ⟨⟨a, b⟩, c⟩; exact ⟨c, a, b⟩
/-- a plan that can be gone on with -/
structure Pre (es plan : List Nat) : Prop where
  on : ∀ rest, LevelFrom es (plan.length + 1) (goneOf es plan) rest → LevelFrom es 1 [] (plan ++ rest)
  le : ∀ t ∈ plan, t ≤ es.length
theorem Pre.nil (es : List Nat) : Pre es [] := ⟨fun _ h => h, fun _ h => nomatch h⟩
theorem Pre.snoc {plan : List Nat} {x : Nat} (p : Pre es plan) (hx : x ∈ free es (plan.length + 1) (goneOf es plan)) : Pre es (plan ++ [x]) := by
  refine ⟨fun rest h => ?_, fun t ht => ?_⟩
  · rw [List.append_assoc]
    refine p.on (x :: rest) ⟨hx, ?_⟩
    rw [goneOf_snoc, List.length_append] at h
    exact h
  · rcases List.mem_append.mp ht with ht | ht
    · exact p.le t ht
    · have : t = x := by simpa using ht
      subst this
      exact (mem_free.mp hx).1.1
theorem best_at (es ws : List Nat) {f d x : Nat} {gone : List Nat} (hx : x ∈ free es d gone) (h : ∀ y ∈ free es d gone, worth es ws y + best es ws f (d + 1) (gone ++ below es y) ≤ worth es ws x + best es ws f (d + 1) (gone ++ below es x)) :
    best es ws (f + 1) d gone = worth es ws x + best es ws f (d + 1) (gone ++ below es x) :=
  Nat.le_antisymm (best_le es ws h) (best_ge es ws hx)
theorem best_zero (es ws : List Nat) {f d : Nat} {gone : List Nat} (hf : free es d gone = []) : best es ws f d gone = 0 := by
  cases f with
  | zero => rfl
  | succ f => exact Nat.le_antisymm (best_le es ws fun x hx => by rw [hf] at hx; cases hx) (Nat.zero_le _)
/-- as many minutes as a plan has, there are depths -/
theorem Pre.len (h : Eld es) {plan : List Nat} {x : Nat} (hx : x ∈ free es (plan.length + 1) (goneOf es plan)) : plan.length + 1 ≤ es.length := by
  obtain ⟨⟨hle, _⟩, hdep, _⟩ := mem_free.mp hx
  have := dep_lt h x hle
  omega
end TM
set_option Elab.async false
set_option maxHeartbeats 4000000
namespace FT
open PySem L2 TM
def nats (l : List Nat) : List V := l.map fun n : Nat => V.int (n : Int)
theorem nats_length (l : List Nat) : (nats l).length = l.length := List.length_map _
theorem nats_get {l : List Nat} {i : Nat} (h : i < l.length) : (nats l)[i]? = some (.int (l.getD i 0 : Nat)) := by
  unfold nats
  rw [List.getElem?_map, List.getElem?_eq_getElem h, List.getD_eq_getElem?_getD, List.getElem?_eq_getElem h]; rfl
theorem nats_ints (l : List Nat) : nats l = (l.map fun n : Nat => (n : Int)).map V.int := by unfold nats; rw [List.map_map]; rfl
theorem nats_app (l m : List Nat) : nats (l ++ m) = nats l ++ nats m := List.map_append ..
theorem nats_flat (l : List Nat) : (nats l).all flatV = true := by
  unfold nats; rw [List.all_map, List.all_eq_true]; intro x _; rfl
theorem sum_nats (l : List Nat) : (l.map fun n : Nat => (n : Int)).sum = (l.sum : Nat) := by
  induction l with
  | nil => rfl
  | cons a l ih => rw [List.map_cons, List.sum_cons, List.sum_cons, ih]; omega
theorem nats_in (l : List Nat) (x : Nat) : inV (.int (x : Nat)) (nats l) = decide (x ∈ l) := by
  unfold inV nats
  rw [List.any_map]
  induction l with
  | nil => rfl
  | cons a l ih =>
    rw [List.any_cons, ih]
    show (((a : Int) == (x : Int)) || decide (x ∈ l)) = _
    by_cases h : a = x
    · subst h; simp
    · have : ((a : Int) == (x : Int)) = false := by simp; omega
      rw [this, Bool.false_or]
      simp [show ¬ x = a from fun e => h e.symm]
theorem nats_at {l : List Nat} {i : Nat} (h : i < l.length) : atI (nats l) (i : Int) = some (.int (l.getD i 0 : Nat)) := atI_nat (nats_get h)
theorem same_new {H : Hp} {p : Addr} (h : H p = none) (o : HO) : Same H (upd H p o) := fun b u q => by rw [upd_ne (ne_of_none q h)]; exact q
theorem same_upd {H H' : Hp} {p : Addr} {o : HO} (s : Same H H') (h : H p = none) : Same H (upd H' p o) := fun b u q => by rw [upd_ne (ne_of_none q h)]; exact s b u q
theorem small {n : Nat} (h : n ≤ 1000) : n ≤ sizeLine := Nat.le_of_lt (small1000 h)
theorem _root_.L2.Same.tup {K : PySem.W.Frag} {H H' : Hp} {a : Addr} {xs : List V} (e : Same H H') (h : SqT K H a xs) : SqT K H' a xs := by
  rcases h with h | h
  · rcases h with h | ⟨o, h⟩
    · exact .inl (.inl (e _ _ h))
    · exact .inl (.inr ⟨o, e _ _ h⟩)
  · exact .inr h
theorem bo_list : bootBuiltins "list" = some (.type "list") := by decide +kernel
theorem bo_tuple : bootBuiltins "tuple" = some (.type "tuple") := by decide +kernel
theorem bo_int : bootBuiltins "int" = some (.type "int") := by decide +kernel
theorem bo_bool : bootBuiltins "bool" = some (.type "bool") := by decide +kernel
theorem bo_min : bootBuiltins "min" = some (.builtin "min") := by decide +kernel
theorem bo_max : bootBuiltins "max" = some (.builtin "max") := by decide +kernel
theorem bo_sum : bootBuiltins "sum" = some (.builtin "sum") := by decide +kernel
theorem bo_isinstance : bootBuiltins "isinstance" = some (.builtin "isinstance") := by decide +kernel
structure Nm (mg : Str → Option Value) : Prop where
  len : mg "len" = none
  range : mg "range" = none
  min : mg "min" = none
  max : mg "max" = none
  list : mg "list" = none
  tuple : mg "tuple" = none
  sum : mg "sum" = none
  isinstance : mg "isinstance" = none
  int : mg "int" = none
  bool : mg "bool" = none
  enumerate : mg "enumerate" = none
/-- a Tree stands at x: its two tuples -/
def IsTree (C : Addr) (H : Hp) (x : Addr) (es ws : List Nat) : Prop :=
  ∃ dx p q, H x = some (.ins C dx (putF "worth_row" (.ref q) (putF "elder_row" (.ref p) []))) ∧ H p = some (.tup (nats es)) ∧ H q = some (.tup (nats ws))
theorem IsTree.same {C : Addr} {H H' : Hp} {x : Addr} {es ws : List Nat} (t : IsTree C H x es ws) (s : Same H H') : IsTree C H' x es ws := by
  obtain ⟨dx, p, q, a, b, c⟩ := t
  exact ⟨dx, p, q, s _ _ a, s _ _ b, s _ _ c⟩
theorem we : ¬ (("elder_row" : Str) = "worth_row") := by decide +kernel
theorem row_w (p q : V) : (putF "worth_row" q (putF "elder_row" p [])).lookup ("worth_row" : Str) = some q := by rw [lookup_putF, if_pos rfl]
theorem row_e (p q : V) : (putF "worth_row" q (putF "elder_row" p [])).lookup ("elder_row" : Str) = some p := by rw [lookup_putF, if_neg we, lookup_putF, if_pos rfl]
theorem row_no (p q : V) {m : Str} (h1 : ¬ m = "worth_row") (h2 : ¬ m = "elder_row") : (putF "worth_row" q (putF "elder_row" p [])).lookup m = none := by
  rw [lookup_putF, if_neg h1, lookup_putF, if_neg h2]; rfl
section
variable (K : PySem.W.Frag)
def spCell : Sp := fun vs H Q _ => ∃ (a : Addr) (ns : List Int) (k : Int), vs = [.ref a, .int k] ∧ SqL K H a (ns.map V.int) ∧ 0 ≤ k ∧ ∀ d : Int, Q (.int d) H
def spDraw : Sp := fun vs H Q _ => ∃ (a : Addr) (ns : List Int) (k : Int), vs = [.ref a, .int k] ∧ SqL K H a (ns.map V.int) ∧ 0 ≤ k ∧ k ≤ 1000 ∧ ∀ d : Int, 0 ≤ d → d < 2147483647 → Q (.int d) H
def spElders : Sp := fun vs H Q _ => ∃ (a : Addr) (ns : List Int) (n : Int), vs = [.ref a, .int n] ∧ SqL K H a (ns.map V.int) ∧ 1 ≤ n ∧ n ≤ 14 ∧
  ∀ (r : Addr) (es : List Nat) (H' : Hp), H r = none → Same H H' → H' r = some (.lst (nats es)) → (es.length : Int) + 1 = n → Eld es → Q (.ref r) H'
def spTree : Sp := fun vs H Q _ => ∃ (a : Addr) (ns : List Int) (m : Int), vs = [.ref a, .int m] ∧ SqL K H a (ns.map V.int) ∧ 1 ≤ m ∧ m ≤ 14 ∧
  ∀ (r e w : Addr) (es ws : List Nat) (H' : Hp), H r = none → H e = none → H w = none → e ≠ w → Same H H' → H' r = some (.tup [.ref e, .ref w]) → H' e = some (.lst (nats es)) → H' w = some (.lst (nats ws)) → Good es ws → (ws.length : Int) ≤ m → Q (.ref r) H'
def spWhole : Sp := fun vs H Q _ => ∃ i : Int, vs = [.int i] ∧ Q (.bl true) H
def spDepthL : Sp := fun vs H Q _ => ∃ (a : Addr) (es : List Nat) (t : Nat), vs = [.ref a, .int t] ∧ SqL K H a (nats es) ∧ Eld es ∧ t ≤ es.length ∧ Q (.int (dep es t : Nat)) H
def spBelowL : Sp := fun vs H Q _ => ∃ (a : Addr) (es : List Nat) (t : Nat), vs = [.ref a, .int t] ∧ SqL K H a (nats es) ∧ Eld es ∧ es.length ≤ 14 ∧ t ≤ es.length ∧
  ∀ (r : Addr) (H' : Hp), H r = none → Same H H' → H' r = some (.lst (nats (below es t))) → Q (.ref r) H'
def spWorthL : Sp := fun vs H Q _ => ∃ (p e w : Addr) (es ws : List Nat) (t : Nat), vs = [.ref p, .int t] ∧ SqT K H p [.ref e, .ref w] ∧ SqL K H e (nats es) ∧ SqL K H w (nats ws) ∧ Good es ws ∧ t ≤ es.length ∧
  ∀ H', Same H H' → Q (.int (worth es ws t : Nat)) H'
def spNumbers : Sp := fun vs H Q _ => ∃ (a b : Addr) (xs : List Nat), vs = [.ref a, .ref b] ∧ H a = some (.lst (nats xs)) ∧ H b = some (.lst (nats xs)) ∧ xs.length ≤ 20 ∧ ∀ H', Same H H' → Q (.bl true) H'
def spLengths : Sp := fun vs H Q _ => ∃ (a b : Addr) (es ws : List Nat), vs = [.ref a, .ref b] ∧ SqL K H a (nats es) ∧ SqL K H b (nats ws) ∧ Good es ws ∧ Q .non H
def spChkE : Sp := fun vs H Q _ => ∃ (a : Addr) (es : List Nat), vs = [.ref a] ∧ H a = some (.lst (nats es)) ∧ Eld es ∧ es.length ≤ 14 ∧ ∀ H', Same H H' → Q .non H'
def spChkW : Sp := fun vs H Q _ => ∃ (a : Addr) (ws : List Nat), vs = [.ref a] ∧ SqL K H a (nats ws) ∧ ws.length ≤ 14 ∧ (∀ v ∈ ws, v ≤ 1000) ∧ Q .non H
def spInit (C : Addr) : Sp := fun vs H Q _ => ∃ (x dx a b : Addr) (es ws : List Nat), vs = [.ref x, .ref a, .ref b] ∧ H x = some (.ins C dx []) ∧ H a = some (.lst (nats es)) ∧ H b = some (.lst (nats ws)) ∧ Good es ws ∧
  ∀ H', (∀ c o, c ≠ x → H c = some o → H' c = some o) → IsTree C H' x es ws → Q .non H'
def spGetE (C : Addr) : Sp := fun vs H Q _ => ∃ (x : Addr) (es ws : List Nat), vs = [.ref x] ∧ IsTree C H x es ws ∧ ∀ r, H r = none → Q (.ref r) (upd H r (.lst (nats es)))
def spGetW (C : Addr) : Sp := fun vs H Q _ => ∃ (x : Addr) (es ws : List Nat), vs = [.ref x] ∧ IsTree C H x es ws ∧ ∀ r, H r = none → Q (.ref r) (upd H r (.lst (nats ws)))
def spThings (C : Addr) : Sp := fun vs H Q _ => ∃ (x : Addr) (es ws : List Nat), vs = [.ref x] ∧ IsTree C H x es ws ∧ Q (.int (ws.length : Nat)) H
def spChk (C : Addr) : Sp := fun vs H Q _ => ∃ (x : Addr) (es ws : List Nat) (t : Nat), vs = [.ref x, .int t] ∧ IsTree C H x es ws ∧ Good es ws ∧ t ≤ es.length ∧ Q .non H
def spDepth (C : Addr) : Sp := fun vs H Q _ => ∃ (x : Addr) (es ws : List Nat) (t : Nat), vs = [.ref x, .int t] ∧ IsTree C H x es ws ∧ Good es ws ∧ t ≤ es.length ∧ Q (.int (dep es t : Nat)) H
def spBelow (C : Addr) : Sp := fun vs H Q _ => ∃ (x : Addr) (es ws : List Nat) (t : Nat), vs = [.ref x, .int t] ∧ IsTree C H x es ws ∧ Good es ws ∧ t ≤ es.length ∧
  ∀ (r : Addr) (H' : Hp), H r = none → Same H H' → H' r = some (.lst (nats (below es t))) → Q (.ref r) H'
end
end FT
set_option Elab.async false
set_option maxHeartbeats 4000000
set_option maxRecDepth 20000
namespace FT
open PySem L2 TM
def top (i : Nat) : Stmt := PySem.Challenge.pw_firetree_k04_whole_greatest.main.body.getD i (.Pass ⟨0, 0, 0, 0⟩)
abbrev s_cell : Stmt := (top 24)
abbrev s_draw : Stmt := (top 25)
abbrev s_elders : Stmt := (top 27)
abbrev s_tree : Stmt := (top 28)
section
variable {P : Program} {w : World} {K : PySem.W.Frag} {mg : Str → Option Value} {base : Heap} {f : Addr} {fd : FuncData}
theorem sc_cell : FnScope ["script", "k"] ["script", "k"] (defScope s_cell) := ⟨rfl, rfl, rfl, by decide +kernel, rfl, by decide +kernel, by decide +kernel⟩
theorem ok_cell (F : Fun K "_law_cell_at" "_law_cell_at" s_cell f fd) (N : Nm mg) : FnOk P w K mg base CX0 1 f fd ["script", "k"] (spCell K) := by
  refine F.ok sc_cell (fun vs H Q E h => ?_) (fun cdv A outer s H vs Q E hr h => ?_)
  · obtain ⟨a, ns, k, rfl, _⟩ := h
    rfl
  obtain ⟨a, ns, k, rfl, hS, h0, q⟩ := h
  have mn_len := N.len
  refine ⟨_, (pss_cons (ps_if (pt_cmpR op_lt (pv 1) (pe_callB call_len_seq (by rfl) mn_len PySem.boot_len (pa_cons (pv 0) pa_nil)) (nomark _)) (pss_one (ps_ret (pe_ix ix_list (pv 0) (pv 1) (fun _ _ => rfl)))) pss_nil)
    (pss_one (ps_ret pe_int))), ?_⟩
  have hl : (ns.map V.int).length = ns.length := List.length_map _
  refine ⟨_, rfl, _, rfl, a, _, rfl, .inl hS, _, _, rfl, rfl, _, rfl, ?_⟩
  refine ite2 (fun c => ?_) (fun c => ?_)
  · have c' : k < (((ns.map V.int).length : Nat) : Int) := of_decide_eq_true c
    rw [hl] at c'
    have hk : k.toNat < ns.length := by omega
    have ek : k = ((k.toNat : Nat) : Int) := by omega
    have hv : atI (ns.map V.int) ((k.toNat : Nat) : Int) = some (.int ns[k.toNat]) := atI_nat (by rw [List.getElem?_map, List.getElem?_eq_getElem hk] <;> rfl)
    rw [← ek] at hv
    exact ⟨_, rfl, _, rfl, a, _, _, _, rfl, rfl, hS, hv, q _⟩
  · exact q 0
theorem sc_draw : FnScope ["script", "k"] ["script", "k"] (defScope s_draw) := ⟨rfl, rfl, rfl, by decide +kernel, rfl, by decide +kernel, by decide +kernel⟩
theorem ok_draw (F : Fun K "_law_draw" "_law_draw" s_draw f fd) (D_law_cell_at : DefOk P w K mg base CX0 "_law_cell_at" 1 ["script", "k"] (spCell K)) : FnOk P w K mg base CX0 2 f fd ["script", "k"] (spDraw K) := by
  refine F.ok sc_draw (fun vs H Q E h => ?_) (fun cdv A outer s H vs Q E hr h => ?_)
  · obtain ⟨a, ns, k, rfl, _⟩ := h
    rfl
  obtain ⟨a, ns, k, rfl, hS, h0, h1, q⟩ := h
  refine ⟨_, (pss_one (ps_ret (pe_op op_mod (pe_op op_mul (pe_op op_add (pe_def D_law_cell_at hr pass0 (pa_cons (pv 0) (pa_cons (pe_op op_mod (pv 1) pe_int) pa_nil))) (pe_op op_mul pe_int (pv 1))) (pe_op op_add pe_int (pe_op op_mul pe_int (pv 1)))) pe_int))), ?_⟩
  refine ⟨_, rfl, _, rfl, _, _, rfl, rfl, (by show (0 : Int) < 61; decide), a, ns, k % 61, rfl, hS, Int.emod_nonneg _ (by decide), fun d => ?_⟩
  refine ⟨_, rfl, _, _, rfl, rfl, .inl ⟨by decide, by decide⟩, _, _, rfl, rfl, _, rfl, _, _, rfl, rfl, .inl ⟨by decide, by decide⟩, _, _, rfl, rfl, _, _, rfl, rfl, .inr ⟨by omega, by omega⟩, _, _, rfl, rfl, (by show (0 : Int) < 2147483647; decide), ?_⟩
  exact q _ (Int.emod_nonneg _ (by decide)) (Int.emod_lt_of_pos _ (by decide))
theorem sc_elders : FnScope ["script", "things", "elders", "way", "k", "cell"] ["script", "things"] (defScope s_elders) := ⟨rfl, rfl, rfl, by decide +kernel, rfl, by decide +kernel, by decide +kernel⟩
/-- each of the four ways gives an elder -/
theorem four_ways {way d : Int} {i : Nat} (w0 : 0 ≤ way) (w1 : way < 4) (d0 : 0 ≤ d) :
    ∃ m : Nat, m ≤ i ∧ atI [V.int (d % (0 + (i : Int) + 1)), .int (0 + (i : Int) - d % (0 + (i : Int) + 1) / 2), .int (d % (if 3 < 0 + (i : Int) + 1 then 3 else 0 + (i : Int) + 1)), .int ((0 + (i : Int) + d % 2) / 2)] way = some (.int (m : Nat)) := by
  have e0 : (0 : Int) + (i : Int) + 1 = (i : Int) + 1 := by omega
  have e1 : (0 : Int) + (i : Int) = (i : Int) := by omega
  have a1 : 0 ≤ d % ((i : Int) + 1) := Int.emod_nonneg _ (by omega)
  have a2 : d % ((i : Int) + 1) < (i : Int) + 1 := Int.emod_lt_of_pos _ (by omega)
  rw [e0, e1]
  have hw : way = 0 ∨ way = 1 ∨ way = 2 ∨ way = 3 := by omega
  rcases hw with rfl | rfl | rfl | rfl
  · refine ⟨(d % ((i : Int) + 1)).toNat, by omega, ?_⟩
    rw [Int.toNat_of_nonneg a1]; rfl
  · refine ⟨((i : Int) - d % ((i : Int) + 1) / 2).toNat, by omega, ?_⟩
    rw [Int.toNat_of_nonneg (by omega)]; rfl
  · by_cases c : (3 : Int) < (i : Int) + 1
    · have b1 : 0 ≤ d % 3 := Int.emod_nonneg _ (by decide)
      have b2 : d % 3 < 3 := Int.emod_lt_of_pos _ (by decide)
      refine ⟨(d % 3).toNat, by omega, ?_⟩
      rw [if_pos c, Int.toNat_of_nonneg b1]; rfl
    · refine ⟨(d % ((i : Int) + 1)).toNat, by omega, ?_⟩
      rw [if_neg c, Int.toNat_of_nonneg a1]; rfl
  · have b1 : 0 ≤ d % 2 := Int.emod_nonneg _ (by decide)
    have b2 : d % 2 < 2 := Int.emod_lt_of_pos _ (by decide)
    refine ⟨(((i : Int) + d % 2) / 2).toNat, by omega, ?_⟩
    rw [Int.toNat_of_nonneg (by omega)]; rfl
theorem eld_snoc {es : List Nat} {m : Nat} (h : Eld es) (hm : m ≤ es.length) : Eld (es ++ [m]) := fun k hk => by
  rw [List.length_append, List.length_singleton] at hk
  by_cases c : k < es.length
  · have := h k c
    rw [List.getD_eq_getElem?_getD, List.getElem?_append_left c, ← List.getD_eq_getElem?_getD]; exact this
  · have e : k = es.length := by omega
    subst e
    simp [hm]
theorem ok_elders (F : Fun K "_law_elders" "_law_elders" s_elders f fd) (N : Nm mg) (D_law_draw : DefOk P w K mg base CX0 "_law_draw" 2 ["script", "k"] (spDraw K)) : FnOk P w K mg base CX0 3 f fd ["script", "things"] (spElders K) := by
  refine F.ok sc_elders (fun vs H Q E h => ?_) (fun cdv A outer s H vs Q E hr h => ?_)
  · obtain ⟨a, ns, n, rfl, _⟩ := h
    rfl
  obtain ⟨a, ns, n, rfl, hS, h1, h14, q⟩ := h
  have mn_range := N.range
  have mn_min := N.min
  have hnd := sc_elders.nd
  have hpo := @PassesOwn.never
  refine ⟨_, (pss_cons (ps_set (i := 2) hnd rfl (by first | exact Or.inl rfl | exact Or.inr rfl) (pe_lst pa_nil))
    (pss_cons (ps_set (i := 3) hnd rfl (by first | exact Or.inl rfl | exact Or.inr rfl) (pe_op op_mod (pe_def D_law_draw hr pass0 (pa_cons (pv 0) (pa_cons pe_int pa_nil))) pe_int))
    (pss_cons (ps_for hpo rfl (pi_range1 (by rfl) mn_range (pa_cons (pe_op op_sub (pv 1) pe_int) pa_nil)) (pg_name (i := 4) hnd rfl (by first | exact Or.inl rfl | exact Or.inr rfl)) (pss_cons (ps_set (i := 5) hnd rfl (by first | exact Or.inl rfl | exact Or.inr rfl) (pe_def D_law_draw hr pass0 (pa_cons (pv 0) (pa_cons (pe_op op_add pe_int (pv 4)) pa_nil))))
      (pss_one (ps_expr (pe_bm PySem.F.plainAttrs_list PySem.F.slot_list_append PySem.F.type_list_append mt_append (pv 2) (pa_cons (pe_ix ix_list (pe_lst (pa_cons (pe_op op_mod (pv 5) (pe_op op_add (pv 4) pe_int)) (pa_cons (pe_op op_sub (pv 4) (pe_op op_fdiv (pe_op op_mod (pv 5) (pe_op op_add (pv 4) pe_int)) pe_int)) (pa_cons (pe_op op_mod (pv 5) (pe_callB (call_min2 rfl) (by rfl) mn_min bo_min (pa_cons (pe_op op_add (pv 4) pe_int) (pa_cons pe_int pa_nil)))) (pa_cons (pe_op op_fdiv (pe_op op_add (pv 4) (pe_op op_mod (pv 5) pe_int)) pe_int) pa_nil))))) (pv 3) (fun _ _ => rfl)) pa_nil))))))
    (pss_one (ps_ret (pv 2)))))), ?_⟩
  refine ⟨(by show 0 ≤ sizeLine; decide), fun r hr0 => ?_⟩
  have s1 : Same H (upd H r (.lst [])) := same_new hr0 _
  refine ⟨_, rfl, a, ns, 2, rfl, s1.seq hS, by decide, by decide, fun d d0 d1 => ⟨_, _, rfl, rfl, (by show (0 : Int) < 4; decide), ?_⟩⟩
  have w0 : 0 ≤ d % 4 := Int.emod_nonneg _ (by decide)
  have w1 : d % 4 < 4 := Int.emod_lt_of_pos _ (by decide)
  refine ⟨_, rfl, _, _, rfl, rfl, n - 1, rfl, by omega, by omega, for_range (n := (n - 1).toNat) (fun i σ H2 => ∃ (es : List Nat) (kv cv : Option V), σ = [some (.ref a), some (.int n), some (.ref r), some (.int (d % 4)), kv, cv] ∧ Same H H2 ∧ H2 r = some (.lst (nats es)) ∧ es.length = i ∧ Eld es)
    ⟨[], none, none, rfl, s1, upd_same, rfl, fun k hk => absurd hk (Nat.not_lt_zero _)⟩ ?_ ?_⟩
  · rintro i σ H2 hi ⟨es, kv, cv, rfl, s2, hl, he, hE⟩
    refine ⟨_, rfl, _, rfl, _, _, rfl, rfl, a, ns, 10 + (0 + (i : Int)), rfl, s2.seq hS, by omega, by omega, fun c c0 c1 => ?_⟩
    obtain ⟨m, hm, hv⟩ := four_ways (i := i) w0 w1 c0
    have p1 : (0 : Int) < 0 + (i : Int) + 1 := by omega
    have p3 : (0 : Int) < (if 3 < 0 + (i : Int) + 1 then 3 else 0 + (i : Int) + 1) := by split <;> omega
    refine ⟨_, rfl, .inl ⟨rfl, _, SqL.of hl⟩, ?_⟩
    refine ⟨_, rfl, _, rfl, _, _, rfl, rfl, _, _, rfl, rfl, p1, ?_⟩
    refine ⟨_, rfl, _, rfl, _, rfl, _, _, rfl, rfl, _, _, rfl, rfl, p1, _, _, rfl, rfl, ⟨by decide, by decide⟩, _, _, rfl, rfl, ?_⟩
    refine ⟨_, rfl, _, rfl, _, _, rfl, rfl, _, _, rfl, _, _, rfl, rfl, p3, ?_⟩
    refine ⟨_, rfl, _, rfl, _, _, rfl, rfl, (by show (0 : Int) < 2; decide), _, _, rfl, rfl, _, _, rfl, rfl, ⟨by decide, by decide⟩, ?_⟩
    refine ⟨(by show 4 ≤ sizeLine; decide), fun p hp => ?_⟩
    have s3 : ∀ o, Same H2 (upd H2 p o) := fun o => same_new hp o
    refine ⟨_, rfl, p, _, _, _, rfl, rfl, SqL.of upd_same, hv, ?_⟩
    refine ⟨r, _, _, rfl, rfl, s3 _ _ _ hl, small1000 (by rw [nats_length]; omega), ?_⟩
    refine ⟨es ++ [m], _, _, rfl, same_upd (s2.trans (s3 _)) hr0, ?_, by rw [List.length_append, he]; rfl, eld_snoc hE (by omega)⟩
    rw [upd_same, nats_app]; rfl
  · rintro σ H2 ⟨es, kv, cv, rfl, s2, hl, he, hE⟩
    exact ⟨_, rfl, q r es H2 hr0 s2 hl (by omega) hE⟩
theorem sc_tree : FnScope ["script", "most", "things", "top"] ["script", "most"] (defScope s_tree) := ⟨rfl, rfl, rfl, by decide +kernel, rfl, by decide +kernel, by decide +kernel⟩
theorem three_tops {k : Int} (k0 : 0 ≤ k) (k1 : k < 3) : ∃ t : Int, 0 < t ∧ t ≤ 1001 ∧ atI [V.int 10, .int 2, .int 1001] k = some (.int t) := by
  have hk : k = 0 ∨ k = 1 ∨ k = 2 := by omega
  rcases hk with rfl | rfl | rfl
  · exact ⟨10, by decide, by decide, rfl⟩
  · exact ⟨2, by decide, by decide, rfl⟩
  · exact ⟨1001, by decide, by decide, rfl⟩
theorem ok_tree (F : Fun K "_law_tree" "_law_tree" s_tree f fd) (N : Nm mg) (D_law_draw : DefOk P w K mg base CX0 "_law_draw" 2 ["script", "k"] (spDraw K)) (D_law_elders : DefOk P w K mg base CX0 "_law_elders" 3 ["script", "things"] (spElders K)) :
    FnOk P w K mg base CX0 4 f fd ["script", "most"] (spTree K) := by
  refine F.ok sc_tree (fun vs H Q E h => ?_) (fun cdv A outer s H vs Q E hr h => ?_)
  · obtain ⟨a, ns, n, rfl, _⟩ := h
    rfl
  obtain ⟨a, ns, m, rfl, hS, h1, h14, q⟩ := h
  have mn_range := N.range
  have hnd := sc_tree.nd
  refine ⟨_, (pss_cons (ps_set (i := 2) hnd rfl (by first | exact Or.inl rfl | exact Or.inr rfl) (pe_op op_add pe_int (pe_op op_mod (pe_def D_law_draw hr pass0 (pa_cons (pv 0) (pa_cons pe_int pa_nil))) (pv 1))))
    (pss_cons (ps_set (i := 3) hnd rfl (by first | exact Or.inl rfl | exact Or.inr rfl) (pe_ix ix_list (pe_lst (pa_cons pe_int (pa_cons pe_int (pa_cons pe_int pa_nil)))) (pe_op op_mod (pe_def D_law_draw hr pass0 (pa_cons (pv 0) (pa_cons pe_int pa_nil))) pe_int) (fun _ _ => rfl)))
    (pss_one (ps_ret (pe_tup (pa_cons (pe_def D_law_elders hr pass0 (pa_cons (pv 0) (pa_cons (pv 2) pa_nil))) (pa_cons (pe_lcB rfl hnd (pi_range1 (by rfl) mn_range (pa_cons (pv 2) pa_nil)) (fun cl C s0 H0 fp pn => pts_nil) (fun cl C s0 H0 fp pn => (pe_op op_mod (pe_def D_law_draw hr pass0 (pa_cons (pv 1) (pa_cons (pe_op op_add pe_int (pv 0)) pa_nil))) (pv 4))) (by kernel_rfl)) pa_nil))))))), ?_⟩
  refine ⟨_, rfl, a, ns, 1, rfl, hS, by decide, by decide, fun d d0 d1 => ⟨_, rfl, _, _, rfl, rfl, (by show (0 : Int) < m; omega), _, _, rfl, rfl, ?_⟩⟩
  have t0 : 0 ≤ d % m := Int.emod_nonneg _ (by omega)
  have t1 : d % m < m := Int.emod_lt_of_pos _ (by omega)
  refine ⟨(by show 3 ≤ sizeLine; decide), fun p hp => ?_⟩
  have s1 : Same H (upd H p (.lst [.int 10, .int 2, .int 1001])) := same_new hp _
  refine ⟨_, rfl, a, ns, 3, rfl, s1.seq hS, by decide, by decide, fun c c0 c1 => ?_⟩
  obtain ⟨tp, tp0, tp1, htp⟩ := three_tops (Int.emod_nonneg c (by decide : (3 : Int) ≠ 0)) (Int.emod_lt_of_pos c (by decide : (0 : Int) < 3))
  refine ⟨_, _, rfl, rfl, (by show (0 : Int) < 3; decide), p, _, _, _, rfl, rfl, SqL.of upd_same, htp, ?_⟩
  refine ⟨_, rfl, _, rfl, a, ns, 1 + d % m, rfl, s1.seq hS, by omega, by omega, fun e es H2 he s2 hl hn hE => ?_⟩
  refine ⟨_, rfl, 1 + d % m, rfl, by omega, by omega, ?_⟩
  refine lc_rangeY (n := (1 + d % m).toNat) (fun i ys H3 => ∃ ws : List Nat, ys = nats ws ∧ ws.length = i ∧ (∀ v ∈ ws, v ≤ 1000) ∧ H3 = H2) ⟨[], rfl, rfl, (fun v hv => nomatch hv), rfl⟩ (by omega)
    (fun i ys H3 ⟨ws, e1, e2, _⟩ => by rw [e1, nats_length, e2]; exact Nat.le_refl _) ?_ ?_
  · rintro i ys H3 hi ⟨ws, rfl, e2, e3, rfl⟩
    refine ⟨_, rfl, _, rfl, _, _, rfl, rfl, a, ns, 30 + (0 + (i : Int)), rfl, s2.seq (s1.seq hS), by omega, by omega, fun g g0 g1 => ⟨_, rfl, _, _, rfl, rfl, tp0, ?_⟩⟩
    have u0 : 0 ≤ g % tp := Int.emod_nonneg _ (by omega)
    have u1 : g % tp < tp := Int.emod_lt_of_pos _ tp0
    refine ⟨ws ++ [(g % tp).toNat], ?_, by rw [List.length_append, e2]; rfl, fun v hv => ?_, rfl⟩
    · rw [nats_app]
      show _ = nats ws ++ [V.int ((g % tp).toNat : Nat)]
      rw [Int.toNat_of_nonneg u0]
    · rcases List.mem_append.mp hv with hv | hv
      · exact e3 v hv
      · have : v = (g % tp).toNat := by simpa using hv
        omega
  · rintro ys H3 ⟨ws, rfl, e2, e3, rfl⟩ r hr0
    refine ⟨(by show 2 ≤ sizeLine; decide), fun t ht => ?_⟩
    have s3 : Same H3 (upd H3 r (.lst (nats ws))) := same_new hr0 _
    have s4 : Same (upd H3 r (.lst (nats ws))) (upd (upd H3 r (.lst (nats ws))) t (.tup [.ref e, .ref r])) := same_new ht _
    have s12 : Same H H3 := s1.trans s2
    refine q t e r es ws _ (s12.free (s3.free ht)) (s1.free he) (s12.free hr0) (ne_of_none hl hr0) ((s12.trans s3).trans s4) upd_same (s4 _ _ (s3 _ _ hl)) (s4 _ _ upd_same) ⟨by omega, by omega, hE, e3⟩ (by omega)
end
end FT
set_option Elab.async false
set_option maxHeartbeats 4000000
set_option maxRecDepth 20000
namespace FT
open PySem L2 TM
abbrev s_depthL : Stmt := (top 29)
abbrev s_belowL : Stmt := (top 30)
abbrev s_worthL : Stmt := (top 31)
theorem take_map_succ {α : Type} (g : Nat → α) {l : List Nat} {i : Nat} (h : i < l.length) : (l.take (i + 1)).map g = (l.take i).map g ++ [g (l.getD i 0)] := by
  rw [List.take_add_one, List.getElem?_eq_getElem h, List.map_append, List.getD_eq_getElem?_getD, List.getElem?_eq_getElem h]; rfl
section
variable {P : Program} {w : World} {K : PySem.W.Frag} {mg : Str → Option Value} {base : Heap} {f : Addr} {fd : FuncData}
theorem sc_depthL : FnScope ["elders", "thing", "steps"] ["elders", "thing"] (defScope s_depthL) := ⟨rfl, rfl, rfl, by decide +kernel, rfl, by decide +kernel, by decide +kernel⟩
theorem ok_depthL (F : Fun K "_law_depth" "_law_depth" s_depthL f fd) : FnOk P w K mg base CX0 1 f fd ["elders", "thing"] (spDepthL K) := by
  refine F.ok sc_depthL (fun vs H Q E h => ?_) (fun cdv A outer s H vs Q E hr h => ?_)
  · obtain ⟨a, es, t, rfl, _⟩ := h
    rfl
  obtain ⟨a, es, t, rfl, hS, hE, ht, q⟩ := h
  have hnd := sc_depthL.nd
  have hpo := @PassesOwn.never
  refine ⟨_, (pss_cons (ps_set (i := 2) hnd rfl (by first | exact Or.inl rfl | exact Or.inr rfl) pe_int)
    (pss_cons (ps_while hpo (pt_cmpR op_gt (pv 1) pe_int (nomark _)) (pss_cons (ps_set (i := 1) hnd rfl (by first | exact Or.inl rfl | exact Or.inr rfl) (pe_ix ix_list (pv 0) (pe_op op_sub (pv 1) pe_int) (fun _ _ => rfl)))
      (pss_one (ps_set (i := 2) hnd rfl (by first | exact Or.inl rfl | exact Or.inr rfl) (pe_op op_add (pv 2) pe_int)))))
    (pss_one (ps_ret (pv 2))))), ?_⟩
  refine while_by (fun σ H2 => H2 = H ∧ ∃ (u st : Nat), σ = [some (.ref a), some (.int u), some (.int st)] ∧ u ≤ es.length ∧ st + dep es u = dep es t) (fun σ _ => match σ with | [_, some (.int u), _] => u.toNat | _ => 0) ⟨rfl, t, 0, rfl, ht, by omega⟩ ?_
    (fun σ H Q Q' hq ⟨v, e, i, j, e1, e2, k, ek, q⟩ => ⟨v, e, i, j, e1, e2, k, ek, hq _ _ q⟩)
  rintro σ H2 ⟨rfl, u, st, rfl, hu, hd⟩
  refine ⟨_, rfl, _, _, rfl, rfl, _, rfl, ite2 (fun c => ?_) (fun c => ?_)⟩
  · have c' : (0 : Int) < (u : Int) := of_decide_eq_true c
    have hu0 : 0 < u := by omega
    have e1 : ((u : Int) - 1) = ((u - 1 : Nat) : Int) := by omega
    have hl := hE.el hu0 hu
    refine ⟨_, rfl, _, rfl, _, _, rfl, rfl, a, _, _, _, rfl, rfl, hS, (by rw [e1]; exact nats_at (by omega)), _, rfl, _, _, rfl, rfl, ?_⟩
    have dp := dep_pos hE hu0 hu
    refine ⟨⟨rfl, el es u, st + 1, rfl, by omega, by omega⟩, ?_⟩
    show (((el es u : Nat) : Int)).toNat < ((u : Int)).toNat
    omega
  · have c' : ¬ (0 : Int) < (u : Int) := of_decide_eq_false (Bool.eq_false_iff.mpr c)
    have hu0 : u = 0 := by omega
    subst hu0
    rw [dep_zero] at hd
    refine ⟨_, rfl, ?_⟩
    have : st = dep es t := by omega
    subst this
    exact q
theorem sc_belowL : FnScope ["elders", "thing", "found", "other", "here"] ["elders", "thing"] (defScope s_belowL) := ⟨rfl, rfl, rfl, by decide +kernel, rfl, by decide +kernel, by decide +kernel⟩
theorem ok_belowL (F : Fun K "_law_below" "_law_below" s_belowL f fd) (N : Nm mg) : FnOk P w K mg base CX0 1 f fd ["elders", "thing"] (spBelowL K) := by
  refine F.ok sc_belowL (fun vs H Q E h => ?_) (fun cdv A outer s H vs Q E hr h => ?_)
  · obtain ⟨a, es, t, rfl, _⟩ := h
    rfl
  obtain ⟨a, es, t, rfl, hS, hE, h14, ht, q⟩ := h
  have mn_range := N.range
  have mn_len := N.len
  have hnd := sc_belowL.nd
  have hpo := @PassesOwn.never
  refine ⟨_, (pss_cons (ps_set (i := 2) hnd rfl (by first | exact Or.inl rfl | exact Or.inr rfl) (pe_lst pa_nil))
    (pss_cons (ps_for hpo rfl (pi_range1 (by rfl) mn_range (pa_cons (pe_op op_add (pe_callB call_len_seq (by rfl) mn_len PySem.boot_len (pa_cons (pv 0) pa_nil)) pe_int) pa_nil)) (pg_name (i := 3) hnd rfl (by first | exact Or.inl rfl | exact Or.inr rfl)) (pss_cons (ps_set (i := 4) hnd rfl (by first | exact Or.inl rfl | exact Or.inr rfl) (pv 3))
      (pss_cons (ps_while hpo (pt_cmpR op_gt (pv 4) (pv 1) (nomark _)) (pss_one (ps_set (i := 4) hnd rfl (by first | exact Or.inl rfl | exact Or.inr rfl) (pe_ix ix_list (pv 0) (pe_op op_sub (pv 4) pe_int) (fun _ _ => rfl)))))
      (pss_one (ps_if (pt_cmpR op_eq (pv 4) (pv 1) (nomark _)) (pss_one (ps_expr (pe_bm PySem.F.plainAttrs_list PySem.F.slot_list_append PySem.F.type_list_append mt_append (pv 2) (pa_cons (pv 3) pa_nil)))) pss_nil)))))
    (pss_one (ps_ret (pv 2))))), ?_⟩
  refine ⟨(by show 0 ≤ sizeLine; decide), fun r hr0 => ?_⟩
  have s1 : Same H (upd H r (.lst [])) := same_new hr0 _
  refine ⟨_, rfl, a, _, rfl, .inl (s1.seq hS), _, _, rfl, rfl, (((nats es).length : Nat) : Int) + 1, rfl, by omega, by rw [nats_length]; omega,
    for_range (n := ((((nats es).length : Nat) : Int) + 1).toNat) (fun i σ H2 => ∃ ov hv, σ = [some (.ref a), some (.int t), some (.ref r), ov, hv] ∧ Same H H2 ∧ H2 r = some (.lst (nats (belowTo es t i)))) ⟨none, none, rfl, s1, upd_same⟩ ?_ ?_⟩
  · rintro i σ H2 hi ⟨ov, hv, rfl, s2, hl⟩
    rw [nats_length] at hi
    have hi' : i ≤ es.length := by omega
    refine ⟨_, rfl, ?_⟩
    refine while_by (fun σ H3 => H3 = H2 ∧ ∃ u : Nat, σ = [some (.ref a), some (.int t), some (.ref r), some (.int (0 + (i : Int))), some (.int u)] ∧ u ≤ es.length ∧ climb es t u = climb es t i)
      (fun σ _ => match σ with | [_, _, _, _, some (.int u)] => u.toNat | _ => 0) ⟨rfl, i, by rw [Int.zero_add]; rfl, hi', rfl⟩ ?_ (fun σ H Q Q' hq ⟨v, e, v2, e2, i, j, e3, e4, k, ek, q⟩ => ⟨v, e, v2, e2, i, j, e3, e4, k, ek, hq _ _ q⟩)
    rintro σ H3 ⟨rfl, u, rfl, hu, hc⟩
    refine ⟨_, rfl, _, rfl, _, _, rfl, rfl, _, rfl, ite2 (fun c => ?_) (fun c => ?_)⟩
    · have c' : (t : Int) < (u : Int) := of_decide_eq_true c
      have e1 : ((u : Int) - 1) = ((u - 1 : Nat) : Int) := by omega
      have hlt := hE.el (t := u) (by omega) hu
      refine ⟨_, rfl, _, rfl, _, _, rfl, rfl, a, _, _, _, rfl, rfl, s2.seq hS, (by rw [e1]; exact nats_at (by omega)), ?_⟩
      refine ⟨⟨rfl, el es u, rfl, by omega, by rw [← hc]; exact (climb_gt hE (by omega) hu).symm⟩, ?_⟩
      show (((el es u : Nat) : Int)).toNat < ((u : Int)).toNat
      omega
    · have c' : ¬ (t : Int) < (u : Int) := of_decide_eq_false (Bool.eq_false_iff.mpr c)
      have hcu : climb es t i = u := by rw [← hc]; exact climb_le (by omega)
      refine ⟨_, rfl, _, rfl, rfl, _, rfl, ite2 (fun c2 => ?_) (fun c2 => ?_)⟩
      · have c3 : V.int (u : Int) = V.int (t : Int) := of_decide_eq_true c2
        have e3 : u = t := by have := V.int.inj c3; omega
        have hb : isBelow es t i = true := by unfold isBelow; rw [hcu, e3]; simp
        refine ⟨_, rfl, .inl ⟨rfl, _, SqL.of hl⟩, _, rfl, r, _, _, rfl, rfl, hl, small1000 (by rw [nats_length]; have := belowTo_length es t i; omega), ?_⟩
        refine ⟨_, _, rfl, same_upd s2 hr0, ?_⟩
        rw [upd_same, belowTo_succ, hb, if_pos rfl, nats_app, Int.zero_add]; rfl
      · have c3 : ¬ V.int (u : Int) = V.int (t : Int) := of_decide_eq_false (Bool.eq_false_iff.mpr c2)
        have e3 : u ≠ t := fun e => c3 (by rw [e])
        have hb : isBelow es t i = false := by unfold isBelow; rw [hcu]; simp [e3]
        refine ⟨_, _, rfl, s2, ?_⟩
        rw [hl, belowTo_succ, hb]; simp
  · rintro σ H2 ⟨ov, hv, rfl, s2, hl⟩
    refine ⟨_, rfl, q r H2 hr0 s2 ?_⟩
    rw [hl, nats_length]
    have : (((es.length : Nat) : Int) + 1).toNat = es.length + 1 := by omega
    rw [this]; rfl
theorem sc_worthL : FnScope ["plot", "thing"] ["plot", "thing"] (defScope s_worthL) := ⟨rfl, rfl, rfl, by decide +kernel, rfl, by decide +kernel, by decide +kernel⟩
theorem ok_worthL (F : Fun K "_law_worth" "_law_worth" s_worthL f fd) (N : Nm mg) (D_law_below : DefOk P w K mg base CX0 "_law_below" 1 ["elders", "thing"] (spBelowL K)) : FnOk P w K mg base CX0 2 f fd ["plot", "thing"] (spWorthL K) := by
  refine F.ok sc_worthL (fun vs H Q E h => ?_) (fun cdv A outer s H vs Q E hr h => ?_)
  · obtain ⟨p, e, w, es, ws, t, rfl, _⟩ := h
    rfl
  obtain ⟨p, e, w, es, ws, t, rfl, hT, hS, hW, G, ht, q⟩ := h
  have mn_sum := N.sum
  have hnd := sc_worthL.nd
  refine ⟨_, (pss_one (ps_ret (pe_callB (call_sum rfl) (by rfl) mn_sum bo_sum (pa_cons (pe_lcB rfl hnd (pi_list (pe_def D_law_below hr pass0 (pa_cons (pe_ix ix_tup (pv 0) pe_int (fun _ _ => rfl)) (pa_cons (pv 1) pa_nil)))) (fun cl C s0 H0 fp pn => pts_nil) (fun cl C s0 H0 fp pn => (pe_ix (ix_listK (K := K)) (pe_ix (ix_tupK (K := K)) (pv 1) pe_int (fun _ _ => rfl)) (pv 0) (fun _ _ => rfl))) (by kernel_rfl)) pa_nil)))), ?_⟩
  have hlen := G.len
  have hmost := G.most
  refine ⟨_, rfl, p, _, _, _, rfl, rfl, hT, rfl, _, rfl, e, es, t, rfl, hS, G.lt, by omega, ht, fun r H2 hr0 s2 hl => ⟨r, rfl, ⟨_, SqL.of hl⟩, ?_⟩⟩
  have hbl : (below es t).length ≤ es.length + 1 := belowTo_length es t (es.length + 1)
  refine lc_listY (xs := nats (below es t)) (fun i ys H3 => H3 = H2 ∧ ys = nats (((below es t).take i).map fun o => ws.getD o 0)) ⟨rfl, rfl⟩ (by rw [nats_length]; omega)
    (fun i ys H3 ⟨_, e2⟩ => by rw [e2, nats_length, List.length_map, List.length_take]; omega) (fun i ys H3 _ ⟨e1, _⟩ => by rw [e1]; exact SqL.of hl) ?_ ?_
  · rintro i x ys H3 hx ⟨rfl, rfl⟩
    have hi : i < (below es t).length := by
      have := (List.getElem?_eq_some_iff.mp hx).1
      rwa [nats_length] at this
    rw [nats_get hi] at hx
    have hx' := Option.some.inj hx
    subst hx'
    have hm : (below es t).getD i 0 ≤ es.length := by
      have : (below es t).getD i 0 ∈ below es t := by
        rw [List.getD_eq_getElem?_getD, List.getElem?_eq_getElem hi]
        exact List.getElem_mem hi
      exact mem_below_lt this
    refine ⟨_, rfl, p, _, _, _, rfl, rfl, s2.tup hT, rfl, _, rfl, w, _, _, _, rfl, rfl, s2.seq hW, nats_at (by omega), rfl, ?_⟩
    rw [take_map_succ _ hi, nats_app]; rfl
  · rintro ys H3 ⟨rfl, rfl⟩ p' hp'
    rw [nats_length, List.take_length]
    refine ⟨p', _, rfl, SqL.of (by rw [upd_same, nats_ints]), ?_⟩
    rw [sum_nats]
    exact q _ (s2.trans (same_new hp' _))
end
end FT
set_option Elab.async false
set_option maxHeartbeats 4000000
set_option maxRecDepth 20000
namespace FT
open PySem L2 TM
abbrev s_whole : Stmt := (top 26)
abbrev s_numbers : Stmt := (top 37)
/-- what isinstance says of Python's own -/
structure Kit (K : PySem.W.Frag) : Prop where
  ii : PySem.W.kitOne K (.type "int") (.type "int") = some true
  ib : PySem.W.kitOne K (.type "int") (.type "bool") = some false
  ll : PySem.W.kitOne K (.type "list") (.type "list") = some true
theorem all_true (n : Nat) : (List.range n).all (fun _ => true) = true := by rw [List.all_eq_true]; intro _ _; rfl
theorem no_false (n : Nat) : inV (.bl false) (List.replicate n (.bl true)) = false := by
  unfold inV
  rw [List.any_eq_false]
  intro x hx
  rw [(List.mem_replicate.mp hx).2]
  decide
section
variable {P : Program} {w : World} {K : PySem.W.Frag} {mg : Str → Option Value} {base : Heap} {f : Addr} {fd : FuncData}
theorem sc_whole : FnScope ["found"] ["found"] (defScope s_whole) := ⟨rfl, rfl, rfl, by decide +kernel, rfl, by decide +kernel, by decide +kernel⟩
theorem ok_whole (F : Fun K "_law_whole" "_law_whole" s_whole f fd) (N : Nm mg) (T : Kit K) : FnOk P w K mg base CX0 1 f fd ["found"] spWhole := by
  refine F.ok sc_whole (fun vs H Q E h => ?_) (fun cdv A outer s H vs Q E hr h => ?_)
  · obtain ⟨i, rfl, _⟩ := h
    rfl
  obtain ⟨i, rfl, q⟩ := h
  have mn_isinstance := N.isinstance
  have mn_int := N.int
  have mn_bool := N.bool
  refine ⟨_, (pss_one (ps_ret (pe_and (pe_callB call_isi (by rfl) mn_isinstance bo_isinstance (pa_cons (pv 0) (pa_cons (pe_bty mn_int bo_int) pa_nil))) (pe_one (pe_not (pe_callB call_isi (by rfl) mn_isinstance bo_isinstance (pa_cons (pv 0) (pa_cons (pe_bty mn_bool bo_bool) pa_nil)))))))), ?_⟩
  refine ⟨_, rfl, _, _, _, _, true, rfl, rfl, TyOf.int i, T.ii, _, rfl, ?_⟩
  refine iteT ?_
  exact ⟨_, rfl, _, _, _, _, false, rfl, rfl, TyOf.int i, T.ib, _, rfl, q⟩
theorem sc_numbers : FnScope ["found", "due"] ["found", "due"] (defScope s_numbers) := ⟨rfl, rfl, rfl, by decide +kernel, rfl, by decide +kernel, by decide +kernel⟩
theorem ok_numbers (F : Fun K "_law_numbers" "_law_numbers" s_numbers f fd) (N : Nm mg) (T : Kit K) (D_law_whole : DefOk P w K mg base CX0 "_law_whole" 1 ["found"] spWhole) : FnOk P w K mg base CX0 2 f fd ["found", "due"] spNumbers := by
  refine F.ok sc_numbers (fun vs H Q E h => ?_) (fun cdv A outer s H vs Q E hr h => ?_)
  · obtain ⟨a, b, xs, rfl, _⟩ := h
    rfl
  obtain ⟨a, b, xs, rfl, ha, hb, h20, q⟩ := h
  have mn_isinstance := N.isinstance
  have mn_list := N.list
  have hnd := sc_numbers.nd
  have hu : (A.deeper (PyProof.Rows.envOfC "_law_numbers" (defScope s_numbers) s.heap.objs.size f cdv)).units + 5 < cLine := by have := hr.units; omega
  refine ⟨_, (pss_cons (ps_if (PW.pt (pw_or (pt_not (pt_val (pe_callB call_isi (by rfl) mn_isinstance bo_isinstance (pa_cons (pv 0) (pa_cons (pe_bty mn_list bo_list) pa_nil))))) (pw_or1 (pt_cmpR (op_neL hu) (pv 0) (pv 1) (nomark _))))) (pss_one (ps_ret pe_bl)) pss_nil)
    (pss_one (ps_ret (pe_cmpR op_notIn_seq pe_bl (pe_lcB rfl hnd (pi_list (pv 0)) (fun cl C s0 H0 fp pn => pts_nil) (fun cl C s0 H0 fp pn => (pe_def D_law_whole hr pass0 (pa_cons (pv 0) pa_nil))) (by kernel_rfl)) (by rfl))))), ?_⟩
  refine ⟨_, rfl, _, _, _, _, true, rfl, rfl, TyOf.lst ha, T.ll, _, rfl, ?_⟩
  refine iteF ?_
  refine ⟨_, rfl, _, rfl, a, b, _, _, rfl, rfl, SqL.of ha, SqL.of hb, .inr ⟨rfl, fun _ => true, fun i x y e1 e2 => ?_, _, rfl, ?_⟩⟩
  · rw [e1] at e2
    have e3 := Option.some.inj e2
    subst e3
    have hi : i < xs.length := by
      have := (List.getElem?_eq_some_iff.mp e1).1
      rwa [nats_length] at this
    rw [nats_get hi] at e1
    have e4 := Option.some.inj e1
    subst e4
    have d := DEq.flat (K := K) (H := H) (n := 4) (x := .int (xs.getD i 0 : Nat)) (y := .int (xs.getD i 0 : Nat)) rfl rfl
    have e5 : eqV (.int (xs.getD i 0 : Nat)) (.int (xs.getD i 0 : Nat)) = true := by show (_ == _) = true; simp
    rw [e5] at d
    exact d
  rw [all_true]
  refine iteF ?_
  refine ⟨_, rfl, a, rfl, ⟨_, SqL.of ha⟩, ?_⟩
  refine lc_listY (xs := nats xs) (fun i ys H3 => H3 = H ∧ ys = List.replicate i (.bl true)) ⟨rfl, rfl⟩ (by rw [nats_length]; omega) (fun i ys H3 ⟨_, e2⟩ => by rw [e2, List.length_replicate]; exact Nat.le_refl _)
    (fun i ys H3 _ ⟨e1, _⟩ => by rw [e1]; exact SqL.of ha) ?_ ?_
  · rintro i x ys H3 hx ⟨rfl, rfl⟩
    have hi : i < xs.length := by
      have := (List.getElem?_eq_some_iff.mp hx).1
      rwa [nats_length] at this
    rw [nats_get hi] at hx
    have e4 := Option.some.inj hx
    subst e4
    refine ⟨_, rfl, _, rfl, rfl, ?_⟩
    rw [List.replicate_succ']
  · rintro ys H3 ⟨rfl, rfl⟩ p hp
    refine ⟨p, _, rfl, .inl (SqL.of upd_same), rfl, ?_, ?_⟩
    · rw [List.all_eq_true]
      intro x hx
      rw [(List.mem_replicate.mp hx).2]; rfl
    · show Q (.bl (!inV (.bl false) (List.replicate _ (.bl true)))) _
      rw [no_false]
      exact q _ (same_new hp _)
end
end FT
set_option Elab.async false
set_option maxHeartbeats 4000000
set_option maxRecDepth 20000
namespace FT
open PySem L2 TM
def optV : Option Int → V
  | none => .non
  | some i => .int i
abbrev optVs (plan : List (Option Int)) : List V := plan.map optV
/-- lists of numbers in a list, none of them one of ex -/
def RowsX (H : Hp) (r : Addr) (rs : List (List Nat)) (ex : List Addr) : Prop :=
  ∃ ls : List Addr, ls.length = rs.length ∧ H r = some (.lst (ls.map V.ref)) ∧ (∀ l ∈ ls, l ∉ ex) ∧ ∀ (i : Nat) l, ls[i]? = some l → H l = some (.lst (nats (rs.getD i [])))
theorem RowsX.same {H H' : Hp} {r : Addr} {rs : List (List Nat)} {ex : List Addr} (h : RowsX H r rs ex) (s : Same H H') : RowsX H' r rs ex := by
  obtain ⟨ls, a, b, c, d⟩ := h
  exact ⟨ls, a, s _ _ b, c, fun i l e => s _ _ (d i l e)⟩
theorem RowsX.upd {H : Hp} {r c : Addr} {rs : List (List Nat)} {ex : List Addr} {o : HO} (h : RowsX H r rs ex) (hc : c ∈ ex) (hr : r ≠ c) : RowsX (L2.upd H c o) r rs ex := by
  obtain ⟨ls, a, b, d, e⟩ := h
  exact ⟨ls, a, by rw [upd_ne hr]; exact b, d, fun i l q => by rw [upd_ne (fun z => d l (List.mem_of_getElem? q) (by rw [z]; exact hc))]; exact e i l q⟩
theorem RowsX.add {H : Hp} {r g : Addr} {rs : List (List Nat)} {ex : List Addr} {x : List Nat} (h : RowsX H r rs ex) (hg : H g = some (.lst (nats x))) (hx : g ∉ ex) (hr : r ∈ ex) : ∃ ls : List Addr, H r = some (.lst (ls.map V.ref)) ∧ ls.length = rs.length ∧ RowsX (L2.upd H r (.lst (ls.map V.ref ++ [.ref g]))) r (rs ++ [x]) ex := by
  obtain ⟨ls, a, b, d, e⟩ := h
  refine ⟨ls, b, a, ls ++ [g], by rw [List.length_append, List.length_append, a]; rfl, by rw [upd_same, List.map_append]; rfl, fun l hl => ?_, fun i l q => ?_⟩
  · rcases List.mem_append.mp hl with hl | hl
    · exact d l hl
    · have : l = g := by simpa using hl
      rw [this]; exact hx
  · by_cases hi : i < ls.length
    · rw [List.getElem?_append_left hi] at q
      rw [upd_ne (fun z => d l (List.mem_of_getElem? q) (by rw [z]; exact hr)), e i l q]
      rw [List.getD_eq_getElem?_getD, List.getD_eq_getElem?_getD, List.getElem?_append_left (by omega)]
    · have hl : i = ls.length := by
        have := (List.getElem?_eq_some_iff.mp q).1
        rw [List.length_append] at this
        have : i < ls.length + 1 := this
        omega
      subst hl
      rw [List.getElem?_append_right (Nat.le_refl _), Nat.sub_self] at q
      cases q
      rw [upd_ne (fun z => hx (by rw [z]; exact hr)), hg]
      rw [List.getD_eq_getElem?_getD, a, List.getElem?_append_right (Nat.le_refl _), Nat.sub_self]; rfl
theorem take_filter_succ (p : Nat → Bool) {l : List Nat} {k : Nat} (h : k < l.length) : (l.take (k + 1)).filter p = (l.take k).filter p ++ (if p (l.getD k 0) then [l.getD k 0] else []) := by
  rw [List.take_add_one, List.getElem?_eq_getElem h, List.filter_append, List.getD_eq_getElem?_getD, List.getElem?_eq_getElem h]
  show _ ++ [l[k]].filter p = _ ++ (if p l[k] then [l[k]] else [])
  rw [List.filter_cons]
  split <;> simp
theorem shut_length (plan : List (Option Nat)) (k : Nat) : (shutAt plan k).length ≤ k := by
  unfold shutAt
  exact Nat.le_trans (List.length_filterMap_le _ _) (by rw [List.length_take]; omega)
theorem burn_len (es : List Nat) (plan : List (Option Nat)) (_ : Eld es) (k : Nat) : (burn es plan k).length ≤ 1 + k * (es.length + 1) := burn_length plan k
def freeTo (es : List Nat) (d : Nat) (gone : List Nat) (m : Nat) : List Nat := (List.range m).filter fun t => decide (0 < t) && dep es t == d && !gone.contains t
theorem freeTo_one (es : List Nat) (d : Nat) (gone : List Nat) : freeTo es d gone 1 = [] := by
  unfold freeTo
  rw [show List.range 1 = [0] from rfl]
  simp
theorem freeTo_succ (es : List Nat) (d : Nat) (gone : List Nat) (m : Nat) : freeTo es d gone (m + 1) = freeTo es d gone m ++ (if decide (0 < m) && dep es m == d && !gone.contains m then [m] else []) := by
  unfold freeTo
  rw [List.range_succ, List.filter_append]
  congr 1
  rw [List.filter_cons]
  split <;> simp
theorem freeTo_length (es : List Nat) (d : Nat) (gone : List Nat) (m : Nat) : (freeTo es d gone m).length ≤ m := by
  unfold freeTo
  exact Nat.le_trans (List.length_filter_le _ _) (by rw [List.length_range]; exact Nat.le_refl _)
def spNo : Sp := fun _ _ _ _ => False
end FT
set_option Elab.async false
set_option maxHeartbeats 4000000
set_option maxRecDepth 20000
namespace FT
open PySem L2 TM
abbrev s_fire : Stmt := (top 32)
section
variable (K : PySem.W.Frag)
def spFire : Sp := fun vs H Q _ => ∃ (a p : Addr) (es : List Nat) (plan : List (Option Int)), vs = [.ref a, .ref p] ∧ SqL K H a (nats es) ∧ SqL K H p (optVs plan) ∧ Eld es ∧ es.length ≤ 14 ∧ plan.length ≤ 20 ∧
  (∀ k c, k < plan.length → (∀ j, j < k → flt es plan j = 0) → flt es plan k = c → c ≠ 0 → ∀ t H', Same H H' → H' t = some (.tup [.non, .int (c : Nat)]) → Q (.ref t) H') ∧
  ((∀ j, j < plan.length → flt es plan j = 0) → ∀ t r b rs H', Same H H' → H' t = some (.tup [.ref r, .ref b]) → RowsX H' r rs [] → IsRows es (tn plan) rs → H' b = some (.lst (nats (burn es (tn plan) (plan.length + es.length + 1)))) → Q (.ref t) H')
end
section
variable {P : Program} {w : World} {K : PySem.W.Frag} {mg : Str → Option Value} {base : Heap} {f : Addr} {fd : FuncData}
theorem sc_fire : FnScope ["elders", "plan", "burning", "shut", "rows", "now", "ahead", "thing"] ["elders", "plan"] (defScope s_fire) := ⟨rfl, rfl, rfl, by decide +kernel, rfl, by decide +kernel, by decide +kernel⟩
theorem ok_fire (F : Fun K "_law_fire" "_law_fire" s_fire f fd) (N : Nm mg) : FnOk P w K mg base CX0 1 f fd ["elders", "plan"] (spFire K) := by
  refine F.ok sc_fire (fun vs H Q E h => ?_) (fun cdv A outer s H vs Q E hr h => ?_)
  · obtain ⟨a, p, es, plan, rfl, _⟩ := h
    rfl
  obtain ⟨a, p, es, plan, rfl, ha, hp, hE, h14, h20, qf, qr⟩ := h
  have hnd := sc_fire.nd
  have hpo := @PassesOwn.never
  have mn_range := N.range
  have mn_len := N.len
  have mn_list := N.list
  have hu : (A.deeper (PyProof.Rows.envOfC "_law_fire" (defScope s_fire) s.heap.objs.size f cdv)).units + 5 < cLine := by have := hr.units; omega
  refine ⟨_, (pss_cons (ps_set (i := 2) hnd rfl (by first | exact Or.inl rfl | exact Or.inr rfl) (pe_lst (pa_cons pe_int pa_nil)))
    (pss_cons (ps_set (i := 3) hnd rfl (by first | exact Or.inl rfl | exact Or.inr rfl) (pe_lst pa_nil))
    (pss_cons (ps_set (i := 4) hnd rfl (by first | exact Or.inl rfl | exact Or.inr rfl) (pe_lst (pa_cons (pe_lst (pa_cons pe_int pa_nil)) pa_nil)))
    (pss_cons (ps_for hpo rfl (pi_range1 (by rfl) mn_range (pa_cons (pe_op op_add (pe_op op_add (pe_callB call_len_seq (by rfl) mn_len PySem.boot_len (pa_cons (pv 1) pa_nil)) (pe_callB call_len_seq (by rfl) mn_len PySem.boot_len (pa_cons (pv 0) pa_nil))) pe_int) pa_nil)) (pg_name (i := 5) hnd rfl (by first | exact Or.inl rfl | exact Or.inr rfl)) (pss_cons (ps_if (PW.pt (pw_and (pt_cmpR op_lt (pv 5) (pe_callB call_len_seq (by rfl) mn_len PySem.boot_len (pa_cons (pv 1) pa_nil)) (nomark _)) (pw_and1 (pt_cmpR op_notN (pe_ix ix_list (pv 1) (pv 5) (fun _ _ => rfl)) pe_non (nomark _))))) (pss_cons (ps_if (pt_not (pt_chain op_le op_le pe_int (pe_ix ix_list (pv 1) (pv 5) (fun _ _ => rfl)) (pe_callB call_len_seq (by rfl) mn_len PySem.boot_len (pa_cons (pv 0) pa_nil)))) (pss_one (ps_ret (pe_tup (pa_cons pe_non (pa_cons pe_int pa_nil))))) pss_nil)
        (pss_cons (ps_if (PW.pt (pw_or (pt_cmpR op_in_seq (pe_ix ix_list (pv 1) (pv 5) (fun _ _ => rfl)) (pv 2) (by rfl)) (pw_or1 (pt_cmpR op_in_seq (pe_ix ix_list (pv 1) (pv 5) (fun _ _ => rfl)) (pv 3) (by rfl))))) (pss_one (ps_ret (pe_tup (pa_cons pe_non (pa_cons pe_int pa_nil))))) pss_nil)
        (pss_one (ps_expr (pe_bm PySem.F.plainAttrs_list PySem.F.slot_list_append PySem.F.type_list_append mt_append (pv 3) (pa_cons (pe_ix ix_list (pv 1) (pv 5) (fun _ _ => rfl)) pa_nil)))))) pss_nil)
      (pss_cons (ps_set (i := 6) hnd rfl (by first | exact Or.inl rfl | exact Or.inr rfl) (pe_callTy call_list_of (by rfl) mn_list bo_list (pa_cons (pv 2) pa_nil)))
      (pss_cons (ps_for hpo rfl (pi_range2 (by rfl) mn_range (pa_cons pe_int (pa_cons (pe_op op_add (pe_callB call_len_seq (by rfl) mn_len PySem.boot_len (pa_cons (pv 0) pa_nil)) pe_int) pa_nil))) (pg_name (i := 7) hnd rfl (by first | exact Or.inl rfl | exact Or.inr rfl)) (pss_one (ps_if (PW.pt (pw_and (pt_cmpR op_in_seq (pe_ix ix_list (pv 0) (pe_op op_sub (pv 7) pe_int) (fun _ _ => rfl)) (pv 6) (by rfl)) (pw_and (pt_cmpR op_notIn_seq (pv 7) (pv 6) (by rfl)) (pw_and1 (pt_cmpR op_notIn_seq (pv 7) (pv 3) (by rfl)))))) (pss_one (ps_expr (pe_bm PySem.F.plainAttrs_list PySem.F.slot_list_append PySem.F.type_list_append mt_append (pv 2) (pa_cons (pv 7) pa_nil)))) pss_nil)))
      (pss_one (ps_expr (pe_bm PySem.F.plainAttrs_list PySem.F.slot_list_append PySem.F.type_list_append mt_append (pv 4) (pa_cons (pe_lcSB ["elders", "plan", "burning", "shut", "rows", "now", "ahead", ""] rfl (pi_list (pv 2)) (fun cl C s0 H0 fp pn => (pts_one (pt_cmpR (op_notInK (K := K)) (pv 0) (pv 7) (by rfl)))) (fun cl C s0 H0 fp pn => (pv 0)) (by kernel_rfl)) pa_nil))))))))
    (pss_cons (ps_while hpo (pt_cmpR (op_eqL hu) (pe_ix ix_list (pv 4) (pe_un un_neg pe_int) (fun _ _ => rfl)) (pe_lst pa_nil) (nomark _)) (pss_one (ps_expr (pe_bm0 PySem.F.plainAttrs_list PySem.F.slot_list_pop PySem.F.type_list_pop mt_pop (pv 4)))))
    (pss_one (ps_ret (pe_tup (pa_cons (pv 4) (pa_cons (pv 2) pa_nil)))))))))), ?_⟩
  have one : (1 : Nat) ≤ sizeLine := by decide
  have two : (2 : Nat) ≤ sizeLine := by decide
  have zer : (0 : Nat) ≤ sizeLine := by decide
  refine ⟨one, fun bl nbl => ⟨zer, fun sh nsh => ⟨one, fun g0 ng0 => ⟨one, fun r nr => ?_⟩⟩⟩⟩
  have s1 : Same H (upd (upd (upd (upd H bl (.lst [.int 0])) sh (.lst [])) g0 (.lst [.int 0])) r (.lst [.ref g0])) := (same_new nbl _).trans ((same_new nsh _).trans ((same_new ng0 _).trans (same_new nr _)))
  have fsh : H sh = none := (same_new nbl _).free nsh
  have fr : H r = none := ((same_new nbl _).trans ((same_new nsh _).trans (same_new ng0 _))).free nr
  have n1 : bl ≠ sh := ne_of_none upd_same nsh
  have n2 : bl ≠ g0 := ne_of_none (same_new nsh _ _ _ upd_same) ng0
  have n3 : sh ≠ g0 := ne_of_none upd_same ng0
  have n4 : bl ≠ r := ne_of_none (same_new ng0 _ _ _ (same_new nsh _ _ _ upd_same)) nr
  have n5 : sh ≠ r := ne_of_none (same_new ng0 _ _ _ upd_same) nr
  have n6 : g0 ≠ r := ne_of_none upd_same nr
  have b1 : upd (upd (upd (upd H bl (.lst [.int 0])) sh (.lst [])) g0 (.lst [.int 0])) r (.lst [.ref g0]) bl = some (.lst (nats (burn es (tn plan) 0))) := by rw [upd_ne n4, upd_ne n2, upd_ne n1, upd_same]; rfl
  have b2 : upd (upd (upd (upd H bl (.lst [.int 0])) sh (.lst [])) g0 (.lst [.int 0])) r (.lst [.ref g0]) sh = some (.lst (nats (shutAt (tn plan) 0))) := by rw [upd_ne n5, upd_ne n3, upd_same]; rfl
  have b3 : RowsX (upd (upd (upd (upd H bl (.lst [.int 0])) sh (.lst [])) g0 (.lst [.int 0])) r (.lst [.ref g0])) r ((List.range (0 + 1)).map (row es (tn plan))) [r, bl, sh] := by
    refine ⟨[g0], rfl, upd_same, fun l hl => ?_, fun i l e => ?_⟩
    · have : l = g0 := by simpa using hl
      subst this
      simp [n6, n2.symm, n3.symm]
    · cases i with
      | zero => cases e; rw [upd_ne n6, upd_same]; rfl
      | succ j => simp at e
  generalize upd (upd (upd (upd H bl (.lst [.int 0])) sh (.lst [])) g0 (.lst [.int 0])) r (.lst [.ref g0]) = H1 at s1 b1 b2 b3 ⊢
  have lp : (optVs plan).length = plan.length := List.length_map _
  refine ⟨_, rfl, p, _, rfl, .inl (s1.seq hp), _, rfl, a, _, rfl, .inl (s1.seq ha), _, _, rfl, rfl, _, _, rfl, rfl, (((optVs plan).length : Nat) : Int) + (((nats es).length : Nat) : Int) + 1, rfl, by omega, by rw [lp, nats_length]; omega, for_range (n := ((((optVs plan).length : Nat) : Int) + (((nats es).length : Nat) : Int) + 1).toNat) (fun i σ H2 => ∃ nv av tv, σ = [some (.ref a), some (.ref p), some (.ref bl), some (.ref sh), some (.ref r), nv, av, tv] ∧ Same H H2 ∧ H2 bl = some (.lst (nats (burn es (tn plan) i))) ∧ H2 sh = some (.lst (nats (shutAt (tn plan) i))) ∧
    RowsX H2 r ((List.range (i + 1)).map (row es (tn plan))) [r, bl, sh] ∧ ∀ j, j < i → flt es plan j = 0) ⟨none, none, none, rfl, s1, b1, b2, b3, fun j h => absurd h (Nat.not_lt_zero j)⟩ ?_ ?_⟩
  · rintro i σ H2 hi ⟨nv, av, tv, rfl, s2, hbl, hsh, hrw, hok⟩
    rw [lp, nats_length] at hi
    refine' (fun (key : ∀ H3, Same H H3 → H3 bl = some (.lst (nats (burn es (tn plan) i))) → H3 sh = some (.lst (nats (shutAt (tn plan) (i + 1)))) → RowsX H3 r ((List.range (i + 1)).map (row es (tn plan))) [r, bl, sh] → flt es plan i = 0 → (_ : St → Hp → Prop) [some (.ref a), some (.ref p), some (.ref bl), some (.ref sh), some (.ref r), some (.int (0 + (i : Nat))), av, tv] H3) => ?main) ?rest
    case main =>
      refine ⟨_, rfl, _, rfl, p, _, rfl, .inl (s2.seq hp), _, _, rfl, rfl, _, rfl, ite2 (fun c1 => ?_) (fun c1 => iteF ?_)⟩
      · have c1' : (0 : Int) + (i : Nat) < (((optVs plan).length : Nat) : Int) := of_decide_eq_true c1
        have hip : i < plan.length := by rw [lp] at c1'; omega
        obtain ⟨x, hx⟩ : ∃ x, plan[i]? = some x := ⟨_, List.getElem?_eq_getElem hip⟩
        have hv : atI (optVs plan) (0 + (i : Nat)) = some (optV x) := by
          rw [Int.zero_add]
          exact atI_nat (by rw [List.getElem?_map, hx]; rfl)
        refine ⟨_, rfl, _, rfl, p, _, _, _, rfl, rfl, s2.seq hp, hv, rfl, _, rfl, ?_⟩
        cases x with
        | none =>
          refine iteF ?_
          exact key H2 s2 hbl (by rw [shut_succ_none (.inr hx)]; exact hsh) hrw (by unfold flt; rw [hx])
        | some v =>
          refine iteT ?_
          refine ⟨_, rfl, _, rfl, p, _, _, _, rfl, rfl, s2.seq hp, hv, _, _, rfl, rfl, _, rfl, ite2 (fun c2 => ?_) (fun c2 => ?_)⟩
          · have c2' : 0 ≤ v := of_decide_eq_true c2
            refine ⟨_, rfl, a, _, rfl, .inl (s2.seq ha), _, _, rfl, rfl, _, rfl, ite2 (fun c3 => ?_) (fun c3 => ?_)⟩
            · have c3' : ¬ v ≤ (((nats es).length : Nat) : Int) := by simpa using c3
              rw [nats_length] at c3'
              refine ⟨two, fun t nt => qf i 1 hip (fun j hj => hok j hj) ?_ (by decide) t _ (s2.trans (same_new nt _)) upd_same⟩
              unfold flt
              rw [hx]
              show (if 0 ≤ v ∧ v ≤ (es.length : Nat) then _ else 1) = 1
              rw [if_neg (fun z => c3' z.2)]
            · have c3' : v ≤ (((nats es).length : Nat) : Int) := by simpa using c3
              rw [nats_length] at c3'
              obtain ⟨n, rfl⟩ := Int.eq_ofNat_of_zero_le c2'
              have hin : flt es plan i = if n ∈ burn es (tn plan) i ∨ n ∈ shutAt (tn plan) i then 2 else 0 := by
                unfold flt
                rw [hx]
                show (if 0 ≤ (n : Int) ∧ (n : Int) ≤ (es.length : Nat) then (if (n : Int).toNat ∈ burn es (tn plan) i ∨ (n : Int).toNat ∈ shutAt (tn plan) i then 2 else 0) else 1) = _
                rw [if_pos ⟨c2', c3'⟩, Int.toNat_natCast]
              refine ⟨_, rfl, _, rfl, p, _, _, _, rfl, rfl, s2.seq hp, hv, _, rfl, bl, _, rfl, .inl (SqL.of hbl), rfl, nats_flat _, _, rfl, ite2 (fun c4 => iteT ?_) (fun c4 => ?_)⟩
              · have c4' : inV (.int (n : Nat)) (nats (burn es (tn plan) i)) = true := c4
                rw [nats_in] at c4'
                refine ⟨two, fun t nt => qf i 2 hip (fun j hj => hok j hj) ?_ (by decide) t _ (s2.trans (same_new nt _)) upd_same⟩
                rw [hin, if_pos (.inl (of_decide_eq_true c4'))]
              · have c4' : ¬ inV (.int (n : Nat)) (nats (burn es (tn plan) i)) = true := c4
                rw [nats_in] at c4'
                have m1 : ¬ n ∈ burn es (tn plan) i := fun z => c4' (decide_eq_true z)
                refine ⟨_, rfl, _, rfl, p, _, _, _, rfl, rfl, s2.seq hp, hv, _, rfl, sh, _, rfl, .inl (SqL.of hsh), rfl, nats_flat _, _, rfl, ite2 (fun c5 => ?_) (fun c5 => ?_)⟩
                · have c5' : inV (.int (n : Nat)) (nats (shutAt (tn plan) i)) = true := c5
                  rw [nats_in] at c5'
                  refine ⟨two, fun t nt => qf i 2 hip (fun j hj => hok j hj) ?_ (by decide) t _ (s2.trans (same_new nt _)) upd_same⟩
                  rw [hin, if_pos (.inr (of_decide_eq_true c5'))]
                · have c5' : ¬ inV (.int (n : Nat)) (nats (shutAt (tn plan) i)) = true := c5
                  rw [nats_in] at c5'
                  have m2 : ¬ n ∈ shutAt (tn plan) i := fun z => c5' (decide_eq_true z)
                  have ls := shut_length (tn plan) i
                  refine ⟨_, rfl, .inl ⟨rfl, _, SqL.of hsh⟩, _, rfl, _, rfl, p, _, _, _, rfl, rfl, s2.seq hp, hv, sh, _, _, rfl, rfl, hsh, small1000 (by rw [nats_length]; omega), ?_⟩
                  refine key _ (same_upd s2 fsh) (by rw [upd_ne n1]; exact hbl) ?_ (hrw.upd (by simp) n5.symm) (by rw [hin, if_neg (fun z => z.elim m1 m2)])
                  rw [upd_same, shut_succ_some hx, nats_app]; rfl
          · have c2' : ¬ 0 ≤ v := of_decide_eq_false (Bool.eq_false_iff.mpr c2)
            refine ⟨_, rfl, iteT ⟨two, fun t nt => qf i 1 hip (fun j hj => hok j hj) ?_ (by decide) t _ (s2.trans (same_new nt _)) upd_same⟩⟩
            unfold flt
            rw [hx]
            show (if 0 ≤ v ∧ v ≤ (es.length : Nat) then _ else 1) = 1
            rw [if_neg (fun z => c2' z.1)]
      · have c1' : ¬ (0 : Int) + (i : Nat) < (((optVs plan).length : Nat) : Int) := of_decide_eq_false (Bool.eq_false_iff.mpr c1)
        have hip : plan[i]? = none := List.getElem?_eq_none (by rw [lp] at c1'; omega)
        exact key H2 s2 hbl (by rw [shut_succ_none (.inl hip)]; exact hsh) hrw (by unfold flt; rw [hip])
    case rest =>
      intro H3 s3 hbl3 hsh3 hrw3 ok3
      have lb := burn_len es (tn plan) hE i
      have lb' : i * (es.length + 1) ≤ 34 * 15 := Nat.mul_le_mul (by omega) (by omega)
      refine ⟨_, rfl, bl, _, rfl, .inl (SqL.of hbl3), fun ah nah => ?_⟩
      have s4 := same_new nah (.lst (nats (burn es (tn plan) i)))
      have hbl4 := s4 _ _ hbl3
      have hsh4 := s4 _ _ hsh3
      have hrw4 := hrw3.same s4
      have hah4 := upd_same (H := H3) (a := ah) (o := .lst (nats (burn es (tn plan) i)))
      have nab : bl ≠ ah := ne_of_none hbl3 nah
      have nar : r ≠ ah := by
        obtain ⟨ls, _, b, _⟩ := hrw3
        exact ne_of_none b nah
      have s34 := s3.trans s4
      generalize upd H3 ah (.lst (nats (burn es (tn plan) i))) = H4 at s4 hbl4 hsh4 hrw4 hah4 s34 ⊢
      refine ⟨_, rfl, a, _, rfl, .inl (s34.seq ha), _, _, rfl, rfl, 1, (((nats es).length : Nat) : Int) + 1, rfl, ⟨by omega, by omega, by omega, by rw [nats_length]; omega⟩,
        for_range (lo := 1) (n := ((((nats es).length : Nat) : Int) + 1 - 1).toNat) (fun j σ H5 => ∃ tv, σ = [some (.ref a), some (.ref p), some (.ref bl), some (.ref sh), some (.ref r), some (.int (0 + (i : Nat))), some (.ref ah), tv] ∧ Same H H5 ∧ H5 bl = some (.lst (nats (burn es (tn plan) i ++ spreadTo es (burn es (tn plan) i) (shutAt (tn plan) (i + 1)) (1 + j)))) ∧ H5 sh = some (.lst (nats (shutAt (tn plan) (i + 1)))) ∧
          H5 ah = some (.lst (nats (burn es (tn plan) i))) ∧ RowsX H5 r ((List.range (i + 1)).map (row es (tn plan))) [r, bl, sh]) ⟨_, rfl, s34, by rw [Nat.add_zero, spreadTo_one, List.append_nil]; exact hbl4, hsh4, hah4, hrw4⟩ ?_ ?_⟩
      · rintro j σ H5 hj ⟨tv, rfl, s5, hbl5, hsh5, hah5, hrw5⟩
        rw [nats_length] at hj
        have hj' : 1 + j ≤ es.length := by omega
        have e1 : (1 : Int) + (j : Nat) - 1 = ((1 + j - 1 : Nat) : Int) := by omega
        have et : (1 : Int) + (j : Nat) = ((1 + j : Nat) : Int) := by omega
        have h0 : 0 < 1 + j := by omega
        refine ⟨_, rfl, _, rfl, _, _, rfl, rfl, a, _, _, _, rfl, rfl, s5.seq ha, (by rw [e1]; exact nats_at (by omega)), _, rfl, ah, _, rfl, .inl (SqL.of hah5), rfl, nats_flat _, _, rfl, ite2 (fun c1 => ?_) (fun c1 => iteF ?_)⟩
        · have c1' : inV (.int (el es (1 + j) : Nat)) (nats (burn es (tn plan) i)) = true := c1
          rw [nats_in] at c1'
          have m1 := of_decide_eq_true c1'
          refine ⟨_, rfl, _, rfl, ah, _, rfl, .inl (SqL.of hah5), rfl, nats_flat _, _, rfl, ite2 (fun c2 => ?_) (fun c2 => iteF ?_)⟩
          · have c2' : (!inV (.int ((1 : Int) + (j : Nat))) (nats (burn es (tn plan) i))) = true := c2
            rw [et, nats_in] at c2'
            have m2 : ¬ 1 + j ∈ burn es (tn plan) i := by simpa using c2'
            refine ⟨_, rfl, _, rfl, sh, _, rfl, .inl (SqL.of hsh5), rfl, nats_flat _, _, rfl, ite2 (fun c3 => ?_) (fun c3 => ?_)⟩
            · have c3' : (!inV (.int ((1 : Int) + (j : Nat))) (nats (shutAt (tn plan) (i + 1)))) = true := c3
              rw [et, nats_in] at c3'
              have m3 : ¬ 1 + j ∈ shutAt (tn plan) (i + 1) := by simpa using c3'
              have lt := spreadTo_length es (burn es (tn plan) i) (shutAt (tn plan) (i + 1)) (1 + j)
              refine ⟨_, rfl, .inl ⟨rfl, _, SqL.of hbl5⟩, _, rfl, bl, _, _, rfl, rfl, hbl5, small1000 (by rw [nats_length, List.length_append]; omega), ?_⟩
              refine ⟨_, rfl, same_upd s5 nbl, ?_, by rw [upd_ne n1.symm]; exact hsh5, by rw [upd_ne nab.symm]; exact hah5, hrw5.upd (by simp) n4.symm⟩
              rw [upd_same, ← Nat.add_assoc, spreadTo_succ, if_pos (by simp [h0, m1, m2, m3]), ← List.append_assoc, nats_app (burn es (tn plan) i ++ _), et]; rfl
            · have c3' : ¬ (!inV (.int ((1 : Int) + (j : Nat))) (nats (shutAt (tn plan) (i + 1)))) = true := c3
              rw [et, nats_in] at c3'
              have m3 : 1 + j ∈ shutAt (tn plan) (i + 1) := by simpa using c3'
              exact ⟨_, rfl, s5, by rw [hbl5, ← Nat.add_assoc, spreadTo_succ, if_neg (by simp [m3]), List.append_nil], hsh5, hah5, hrw5⟩
          · have c2' : ¬ (!inV (.int ((1 : Int) + (j : Nat))) (nats (burn es (tn plan) i))) = true := c2
            rw [et, nats_in] at c2'
            have m2 : 1 + j ∈ burn es (tn plan) i := by simpa using c2'
            exact ⟨_, rfl, s5, by rw [hbl5, ← Nat.add_assoc, spreadTo_succ, if_neg (by simp [m2]), List.append_nil], hsh5, hah5, hrw5⟩
        · have c1' : ¬ inV (.int (el es (1 + j) : Nat)) (nats (burn es (tn plan) i)) = true := c1
          rw [nats_in] at c1'
          have m1 : ¬ el es (1 + j) ∈ burn es (tn plan) i := fun z => c1' (decide_eq_true z)
          exact ⟨_, rfl, s5, by rw [hbl5, ← Nat.add_assoc, spreadTo_succ, if_neg (by simp [m1]), List.append_nil], hsh5, hah5, hrw5⟩
      · rintro σ H5 ⟨tv, rfl, s5, hbl5, hsh5, hah5, hrw5⟩
        have en : 1 + ((((nats es).length : Nat) : Int) + 1 - 1).toNat = es.length + 1 := by rw [nats_length]; omega
        rw [en, spreadTo_all] at hbl5
        have hbl6 : H5 bl = some (.lst (nats (burn es (tn plan) (i + 1)))) := hbl5
        have lb1 := burn_len es (tn plan) hE (i + 1)
        have lb1' : (i + 1) * (es.length + 1) ≤ 35 * 15 := Nat.mul_le_mul (by omega) (by omega)
        obtain ⟨ls, hls, hr5, _⟩ := id hrw5
        refine ⟨_, rfl, .inl ⟨rfl, _, SqL.of hr5⟩, _, rfl, bl, rfl, ⟨_, SqL.of hbl6⟩, ?_⟩
        refine lc_list (xs := nats (burn es (tn plan) (i + 1))) (fun k ys H6 => H6 = H5 ∧ ys = nats (((burn es (tn plan) (i + 1)).take k).filter fun t => !(burn es (tn plan) i).contains t)) ⟨rfl, rfl⟩ (by rw [nats_length]; omega)
          (fun k ys H6 ⟨_, e2⟩ => by rw [e2, nats_length]; exact Nat.le_trans (List.length_filter_le _ _) (by rw [List.length_take]; omega)) (fun k ys H6 _ ⟨e1, _⟩ => by rw [e1]; exact SqL.of hbl6) ?_ ?_
        · rintro k x ys H6 hx ⟨rfl, rfl⟩
          have hk : k < (burn es (tn plan) (i + 1)).length := by
            have := (List.getElem?_eq_some_iff.mp hx).1
            rwa [nats_length] at this
          rw [nats_get hk] at hx
          have e4 := Option.some.inj hx
          subst e4
          refine ⟨_, rfl, _, rfl, ah, _, rfl, .inl (SqL.of hah5), rfl, nats_flat _, _, rfl, ite2 (fun c => ?_) (fun c => ?_)⟩
          · have c' : (!inV (.int ((burn es (tn plan) (i + 1)).getD k 0 : Nat)) (nats (burn es (tn plan) i))) = true := c
            rw [nats_in] at c'
            have m : ¬ (burn es (tn plan) (i + 1)).getD k 0 ∈ burn es (tn plan) i := by simpa using c'
            refine ⟨_, rfl, rfl, ?_⟩
            rw [take_filter_succ _ hk, if_pos (by simpa using m), nats_app]; rfl
          · have c' : ¬ (!inV (.int ((burn es (tn plan) (i + 1)).getD k 0 : Nat)) (nats (burn es (tn plan) i))) = true := c
            rw [nats_in] at c'
            have m : (burn es (tn plan) (i + 1)).getD k 0 ∈ burn es (tn plan) i := by simpa using c'
            refine ⟨rfl, ?_⟩
            rw [take_filter_succ _ hk, if_neg (by simpa using m), List.append_nil]
        · rintro ys H6 ⟨rfl, rfl⟩ g ng
          rw [nats_length, List.take_length, burn_succ, filter_new fun t ht => (row_new ht).2.2.2.1]
          have s6 := same_new ng (.lst (nats (row es (tn plan) (i + 1))))
          have hg := upd_same (H := H6) (a := g) (o := .lst (nats (row es (tn plan) (i + 1))))
          have gx : g ∉ [r, bl, sh] := by
            simp only [List.mem_cons, List.not_mem_nil, or_false, not_or]
            exact ⟨(ne_of_none hr5 ng).symm, (ne_of_none hbl6 ng).symm, (ne_of_none hsh5 ng).symm⟩
          obtain ⟨ls2, hr6, ll, hrw7⟩ := (hrw5.same s6).add hg gx (by simp)
          refine ⟨r, _, _, rfl, rfl, hr6, small1000 (by rw [List.length_map, ll, List.length_map, List.length_range]; omega), ?_⟩
          refine ⟨_, _, _, rfl, same_upd (s5.trans s6) fr, by rw [upd_ne n4]; exact s6 _ _ hbl6, by rw [upd_ne n5]; exact s6 _ _ hsh5, ?_, fun j hj => ?_⟩
          · rw [List.range_succ, List.map_append]
            exact hrw7
          · rcases Nat.lt_succ_iff_lt_or_eq.mp hj with hj | rfl
            · exact hok j hj
            · exact ok3
  · rintro σ H2 ⟨nv, av, tv, rfl, s2, hbl, hsh, hrw, hok⟩
    have en : ((((optVs plan).length : Nat) : Int) + (((nats es).length : Nat) : Int) + 1).toNat = plan.length + es.length + 1 := by rw [lp, nats_length]; omega
    rw [en] at hbl hrw hok
    refine while_by (fun σ H3 => σ = [some (.ref a), some (.ref p), some (.ref bl), some (.ref sh), some (.ref r), nv, av, tv] ∧ Same H H3 ∧ H3 bl = some (.lst (nats (burn es (tn plan) (plan.length + es.length + 1)))) ∧ ∃ m, 1 ≤ m ∧ RowsX H3 r ((List.range m).map (row es (tn plan))) [r, bl, sh] ∧ ∀ j, m ≤ j → row es (tn plan) j = [])
      (fun _ H3 => match H3 r with | some (.lst xs) => xs.length | _ => 0) ⟨rfl, s2, hbl, plan.length + es.length + 1 + 1, by omega, hrw, fun j hj => row_late hE _ (by omega)⟩ ?_
      (fun σ H Q Q' hq ⟨v, e, i, ei, p, xs, j, y, e1, e2, e3, e4, z, k⟩ => ⟨v, e, i, ei, p, xs, j, y, e1, e2, e3, e4, z, fun g ng => by
        obtain ⟨a1, b1, xs1, ys1, f1, f2, f3, f4, f5⟩ := k g ng
        refine ⟨a1, b1, xs1, ys1, f1, f2, f3, f4, ?_⟩
        rcases f5 with ⟨l, kk, ek, q⟩ | ⟨l, ee, he, kk, ek, q⟩
        · exact .inl ⟨l, kk, ek, hq _ _ q⟩
        · exact .inr ⟨l, ee, he, kk, ek, hq _ _ q⟩⟩)
    rintro σ H3 ⟨rfl, s3, hbl3, m, m1, hrw3, hlate⟩
    obtain ⟨ls, hl, hr3, hex, hrow⟩ := id hrw3
    have ll : ls.length = m := by rw [hl, List.length_map, List.length_range]
    obtain ⟨l, hlast⟩ : ∃ l, ls[m - 1]? = some l := ⟨_, List.getElem?_eq_getElem (by omega)⟩
    have hll := hrow _ _ hlast
    have hgd : ((List.range m).map (row es (tn plan))).getD (m - 1) [] = row es (tn plan) (m - 1) := by
      rw [List.getD_eq_getElem?_getD, List.getElem?_map, List.getElem?_range (by omega)]; rfl
    rw [hgd] at hll
    have hsp : ls = ls.dropLast ++ [l] := by
      have hne : ls ≠ [] := fun z => by rw [z] at ll; simp at ll; omega
      have e0 := List.dropLast_concat_getLast hne
      have e1 : ls.getLast hne = l := by
        have e := List.getLast?_eq_some_getLast hne
        rw [List.getLast?_eq_getElem?, ll, hlast] at e
        exact (Option.some.inj e).symm
      rw [e1] at e0
      exact e0.symm
    have hat : atI (ls.map V.ref) (-1) = some (.ref l) := by rw [hsp, List.map_append]; exact atI_last _ _
    refine ⟨_, rfl, _, rfl, r, _, _, _, rfl, rfl, SqL.of hr3, hat, zer, fun g ng => ?_⟩
    have s4 := same_new ng (.lst [])
    have s34 := s3.trans s4
    refine ⟨l, g, _, _, rfl, rfl, SqL.of (s4 _ _ hll), SqL.of upd_same, ?_⟩
    by_cases hrow0 : row es (tn plan) (m - 1) = []
    · rw [hrow0]
      refine .inr ⟨rfl, fun _ => true, (fun i x y e1 => nomatch e1), _, rfl, iteT ?_⟩
      have m2 : m ≠ 1 := fun z => by rw [z] at hrow0; cases hrow0
      refine ⟨_, rfl, .inl ⟨rfl, _, SqL.of (s4 _ _ hr3)⟩, r, _, _, rfl, rfl, s4 _ _ hr3, (by rw [List.length_map, ll, List.getElem?_map, hlast]; rfl), ?_⟩
      refine ⟨⟨rfl, same_upd s34 fr, by rw [upd_ne n4]; exact s4 _ _ hbl3, m - 1, by omega, ?_, fun j hj => ?_⟩, ?_⟩
      · refine ⟨ls.dropLast, by rw [List.length_dropLast, ll, List.length_map, List.length_range], by rw [upd_same, List.map_dropLast], fun l hl => hex l (List.dropLast_subset _ hl), fun i l e => ?_⟩
        have hi : i < ls.dropLast.length := (List.getElem?_eq_some_iff.mp e).1
        rw [List.length_dropLast, ll] at hi
        have e' : ls[i]? = some l := by
          rw [List.getElem?_dropLast] at e
          split at e
          · exact e
          · cases e
        rw [upd_ne (fun z => hex l (List.mem_of_getElem? e') (by rw [z]; simp)), s4 _ _ (hrow i l e')]
        rw [List.getD_eq_getElem?_getD, List.getD_eq_getElem?_getD, List.getElem?_map, List.getElem?_map, List.getElem?_range (by omega), List.getElem?_range (by omega)]
      · by_cases hj2 : m ≤ j
        · exact hlate j hj2
        · have : j = m - 1 := by omega
          rw [this]; exact hrow0
      · show (match (upd (upd H3 g (.lst [])) r (.lst (ls.map V.ref).dropLast)) r with | some (.lst xs) => xs.length | _ => 0) < (match H3 r with | some (.lst xs) => xs.length | _ => 0)
        rw [upd_same, hr3]
        show (ls.map V.ref).dropLast.length < (ls.map V.ref).length
        rw [List.length_dropLast, List.length_map]
        omega
    · refine .inl ⟨by rw [nats_length]; exact fun z => hrow0 (List.length_eq_zero_iff.mp z), _, rfl, iteF ?_⟩
      refine ⟨_, rfl, _, rfl, two, fun t nt => qr (fun j hj => hok j (by omega)) t r bl ((List.range m).map (row es (tn plan))) _ (s34.trans (same_new nt _)) upd_same ?_ ⟨?_, fun i hi => ?_, ?_, fun j hj => ?_⟩ (same_new nt _ _ _ (s4 _ _ hbl3))⟩
      · obtain ⟨ls, q1, q2, q3, q4⟩ := (hrw3.same s4).same (same_new nt (.tup [.ref r, .ref bl]))
        exact ⟨ls, q1, q2, (fun _ _ z => nomatch z), q4⟩
      · rw [List.length_map, List.length_range]; omega
      · rw [List.length_map, List.length_range] at hi
        rw [List.getD_eq_getElem?_getD, List.getElem?_map, List.getElem?_range hi]; rfl
      · rw [List.length_map, List.length_range]; exact hrow0
      · rw [List.length_map, List.length_range] at hj; exact hlate j hj
end
end FT
set_option Elab.async false
set_option maxHeartbeats 4000000
set_option maxRecDepth 20000
namespace FT
open PySem L2 TM
abbrev s_savedL : Stmt := (top 33)
section
variable (K : PySem.W.Frag)
def spSavedL : Sp := fun vs H Q _ => ∃ (r e u p : Addr) (es ws : List Nat) (plan : List (Option Int)), vs = [.ref r, .ref p] ∧ SqT K H r [.ref e, .ref u] ∧ SqL K H e (nats es) ∧ SqL K H u (nats ws) ∧ SqL K H p (optVs plan) ∧ Good es ws ∧ plan.length ≤ 20 ∧
  (∀ j, j < plan.length → flt es plan j = 0) ∧ ∀ H', Same H H' → Q (.int (savedAt es ws (tn plan) (plan.length + es.length + 1) : Nat)) H'
end
section
variable {P : Program} {w : World} {K : PySem.W.Frag} {mg : Str → Option Value} {base : Heap} {f : Addr} {fd : FuncData}
theorem sc_savedL : FnScope ["plot", "plan", "burning"] ["plot", "plan"] (defScope s_savedL) := ⟨rfl, rfl, rfl, by decide +kernel, rfl, by decide +kernel, by decide +kernel⟩
theorem ok_savedL (F : Fun K "_law_saved" "_law_saved" s_savedL f fd) (N : Nm mg) (D_law_fire : DefOk P w K mg base CX0 "_law_fire" 1 ["elders", "plan"] (spFire K)) : FnOk P w K mg base CX0 2 f fd ["plot", "plan"] (spSavedL K) := by
  refine F.ok sc_savedL (fun vs H Q E h => ?_) (fun cdv A outer s H vs Q E hr h => ?_)
  · obtain ⟨r, e, u, p, es, ws, plan, rfl, _⟩ := h
    rfl
  obtain ⟨r, e, u, p, es, ws, plan, rfl, hr1, he, hu1, hp, G, h20, hok, q⟩ := h
  have hnd := sc_savedL.nd
  have mn_range := N.range
  have mn_len := N.len
  have mn_sum := N.sum
  have hlen := G.len
  have hmost := G.most
  refine ⟨_, (pss_cons (ps_set (i := 2) hnd rfl (by first | exact Or.inl rfl | exact Or.inr rfl) (pe_ix ix_tup (pe_def D_law_fire hr pass0 (pa_cons (pe_ix ix_tup (pv 0) pe_int (fun _ _ => rfl)) (pa_cons (pv 1) pa_nil))) pe_int (fun _ _ => rfl)))
    (pss_one (ps_ret (pe_callB (call_sum rfl) (by rfl) mn_sum bo_sum (pa_cons (pe_lcB rfl hnd (pi_range1 (by rfl) mn_range (pa_cons (pe_callB call_len_seq (by rfl) mn_len PySem.boot_len (pa_cons (pe_ix ix_tup (pv 0) pe_int (fun _ _ => rfl)) pa_nil)) pa_nil)) (fun cl C s0 H0 fp pn => (pts_one (pt_cmpR (op_notInK (K := K)) (pv 0) (pv 3) (by rfl)))) (fun cl C s0 H0 fp pn => (pe_ix (ix_listK (K := K)) (pe_ix (ix_tupK (K := K)) (pv 1) pe_int (fun _ _ => rfl)) (pv 0) (fun _ _ => rfl))) (by kernel_rfl)) pa_nil))))), ?_⟩
  refine ⟨_, rfl, r, _, _, _, rfl, rfl, hr1, rfl, _, rfl, e, p, es, plan, rfl, he, hp, G.lt, by omega, h20, (fun k c hk _ hc hn => absurd (hc.symm.trans (hok k hk)) hn), fun _ t rr b rs H2 s2 ht hrw irs hb => ?_⟩
  refine ⟨t, _, _, _, rfl, rfl, SqT.of ht, rfl, ?_⟩
  refine ⟨_, rfl, r, _, _, _, rfl, rfl, s2.tup hr1, rfl, u, _, rfl, .inl (s2.seq hu1), ((nats ws).length : Nat), rfl, by omega, by rw [nats_length]; omega, ?_⟩
  refine lc_range (n := (((nats ws).length : Nat) : Int).toNat) (fun i ys H3 => H3 = H2 ∧ ys = nats (((List.range i).filter fun t => !(burn es (tn plan) (plan.length + es.length + 1)).contains t).map fun t => ws.getD t 0)) ⟨rfl, rfl⟩ (by rw [nats_length]; omega)
    (fun i ys H3 ⟨_, e2⟩ => by rw [e2, nats_length, List.length_map]; exact Nat.le_trans (List.length_filter_le _ _) (by rw [List.length_range]; omega)) ?_ ?_
  · rintro i ys H3 hi ⟨rfl, rfl⟩
    rw [nats_length] at hi
    have ei : (0 : Int) + (i : Nat) = (i : Nat) := by omega
    refine ⟨_, rfl, _, rfl, b, _, rfl, .inl (SqL.of hb), rfl, nats_flat _, _, rfl, ite2 (fun c => ?_) (fun c => ?_)⟩
    · have c' : (!inV (.int ((0 : Int) + (i : Nat))) (nats (burn es (tn plan) (plan.length + es.length + 1)))) = true := c
      rw [ei, nats_in] at c'
      have m : ¬ i ∈ burn es (tn plan) (plan.length + es.length + 1) := by simpa using c'
      refine ⟨_, rfl, r, _, _, _, rfl, rfl, s2.tup hr1, rfl, _, rfl, u, _, _, _, rfl, rfl, s2.seq hu1, (by rw [ei]; exact nats_at (by omega)), rfl, ?_⟩
      rw [List.range_succ, List.filter_append, List.map_append, nats_app]
      congr 1
      simp [m, nats]
    · have c' : ¬ (!inV (.int ((0 : Int) + (i : Nat))) (nats (burn es (tn plan) (plan.length + es.length + 1)))) = true := c
      rw [ei, nats_in] at c'
      have m : i ∈ burn es (tn plan) (plan.length + es.length + 1) := by simpa using c'
      refine ⟨rfl, ?_⟩
      rw [List.range_succ, List.filter_append, List.map_append, nats_app]
      simp [m, nats]
  · rintro ys H3 ⟨rfl, rfl⟩ g ng
    refine ⟨g, _, rfl, SqL.of (by rw [upd_same, nats_ints]), ?_⟩
    rw [sum_nats, sum_filter]
    have e1 : (((nats ws).length : Nat) : Int).toNat = es.length + 1 := by rw [nats_length]; omega
    rw [e1]
    exact q _ (s2.trans (same_new ng _))
end
end FT
set_option Elab.async false
set_option maxHeartbeats 4000000
set_option maxRecDepth 20000
namespace FT
open PySem L2 TM
abbrev s_free : Stmt := (top 34)
abbrev s_level : Stmt := (top 35)
abbrev s_best : Stmt := (top 36)
section
variable (K : PySem.W.Frag)
def spFree : Sp := fun vs H Q _ => ∃ (e g : Addr) (es gone : List Nat) (d : Nat), vs = [.ref e, .int d, .ref g] ∧ SqL K H e (nats es) ∧ SqL K H g (nats gone) ∧ Eld es ∧ es.length ≤ 14 ∧
  ∀ (r : Addr) (H' : Hp), H r = none → Same H H' → H' r = some (.lst (nats (free es d gone))) → Q (.ref r) H'
def spLevel : Sp := fun vs H Q _ => ∃ (e p : Addr) (es plan : List Nat), vs = [.ref e, .ref p] ∧ SqL K H e (nats es) ∧ SqL K H p (nats plan) ∧ Eld es ∧ es.length ≤ 14 ∧ plan.length ≤ 14 ∧ LevelFrom es 1 [] plan ∧ ∀ H', Same H H' → Q (.bl true) H'
def spBest (n : Nat) : Sp := fun vs H Q _ => ∃ (r e u g : Addr) (es ws gone : List Nat) (d : Nat), vs = [.ref r, .int d, .ref g] ∧ SqT K H r [.ref e, .ref u] ∧ SqL K H e (nats es) ∧ SqL K H u (nats ws) ∧ H g = some (.lst (nats gone)) ∧ Good es ws ∧ es.length < d + n ∧ gone.length ≤ 15 * d ∧ d ≤ 20 ∧
  ∀ H', Same H H' → Q (.int (best es ws n d gone : Nat)) H'
end
section
variable {P : Program} {w : World} {K : PySem.W.Frag} {mg : Str → Option Value} {base : Heap} {f : Addr} {fd : FuncData}
theorem sc_free : FnScope ["elders", "depth", "gone", "found", "thing"] ["elders", "depth", "gone"] (defScope s_free) := ⟨rfl, rfl, rfl, by decide +kernel, rfl, by decide +kernel, by decide +kernel⟩
theorem ok_free (F : Fun K "_law_free" "_law_free" s_free f fd) (N : Nm mg) (D_law_depth : DefOk P w K mg base CX0 "_law_depth" 1 ["elders", "thing"] (spDepthL K)) : FnOk P w K mg base CX0 2 f fd ["elders", "depth", "gone"] (spFree K) := by
  refine F.ok sc_free (fun vs H Q E h => ?_) (fun cdv A outer s H vs Q E hr h => ?_)
  · obtain ⟨e, g, es, gone, d, rfl, _⟩ := h
    rfl
  obtain ⟨e, g, es, gone, d, rfl, he, hg, hE, h14, q⟩ := h
  have hnd := sc_free.nd
  have hpo := @PassesOwn.never
  have mn_range := N.range
  have mn_len := N.len
  refine ⟨_, (pss_cons (ps_set (i := 3) hnd rfl (by first | exact Or.inl rfl | exact Or.inr rfl) (pe_lst pa_nil))
    (pss_cons (ps_for hpo rfl (pi_range2 (by rfl) mn_range (pa_cons pe_int (pa_cons (pe_op op_add (pe_callB call_len_seq (by rfl) mn_len PySem.boot_len (pa_cons (pv 0) pa_nil)) pe_int) pa_nil))) (pg_name (i := 4) hnd rfl (by first | exact Or.inl rfl | exact Or.inr rfl)) (pss_one (ps_if (PW.pt (pw_and (pt_cmpR op_eq (pe_def D_law_depth hr pass0 (pa_cons (pv 0) (pa_cons (pv 4) pa_nil))) (pv 1) (nomark _)) (pw_and1 (pt_cmpR op_notIn_seq (pv 4) (pv 2) (by rfl))))) (pss_one (ps_expr (pe_bm PySem.F.plainAttrs_list PySem.F.slot_list_append PySem.F.type_list_append mt_append (pv 3) (pa_cons (pv 4) pa_nil)))) pss_nil)))
    (pss_one (ps_ret (pv 3))))), ?_⟩
  have zer : (0 : Nat) ≤ sizeLine := by decide
  refine ⟨zer, fun r nr => ?_⟩
  have s1 := same_new nr (.lst [])
  refine ⟨_, rfl, e, _, rfl, .inl (s1.seq he), _, _, rfl, rfl, 1, (((nats es).length : Nat) : Int) + 1, rfl, ⟨by omega, by omega, by omega, by rw [nats_length]; omega⟩,
    for_range (lo := 1) (n := ((((nats es).length : Nat) : Int) + 1 - 1).toNat) (fun j σ H2 => ∃ tv, σ = [some (.ref e), some (.int d), some (.ref g), some (.ref r), tv] ∧ Same H H2 ∧ H2 r = some (.lst (nats (freeTo es d gone (1 + j))))) ⟨none, rfl, s1, by rw [upd_same, Nat.add_zero, freeTo_one]; rfl⟩ ?_ ?_⟩
  · rintro j σ H2 hj ⟨tv, rfl, s2, hr2⟩
    rw [nats_length] at hj
    have hj' : 1 + j ≤ es.length := by omega
    have et : (1 : Int) + (j : Nat) = ((1 + j : Nat) : Int) := by omega
    have h0 : 0 < 1 + j := by omega
    refine ⟨_, rfl, _, rfl, e, es, 1 + j, (by rw [et]; rfl), s2.seq he, hE, hj', _, rfl, rfl, _, rfl, ite2 (fun c1 => ?_) (fun c1 => iteF ?_)⟩
    · have c1' : V.int (dep es (1 + j) : Nat) = V.int (d : Nat) := of_decide_eq_true c1
      have m1 : dep es (1 + j) = d := by have := V.int.inj c1'; omega
      refine ⟨_, rfl, _, rfl, g, _, rfl, .inl (s2.seq hg), rfl, nats_flat _, _, rfl, ite2 (fun c2 => ?_) (fun c2 => ?_)⟩
      · have c2' : (!inV (.int ((1 : Int) + (j : Nat))) (nats gone)) = true := c2
        rw [et, nats_in] at c2'
        have m2 : ¬ 1 + j ∈ gone := by simpa using c2'
        have lt := freeTo_length es d gone (1 + j)
        refine ⟨_, rfl, .inl ⟨rfl, _, SqL.of hr2⟩, _, rfl, r, _, _, rfl, rfl, hr2, small1000 (by rw [nats_length]; omega), ?_⟩
        refine ⟨_, rfl, same_upd s2 nr, ?_⟩
        rw [upd_same, ← Nat.add_assoc, freeTo_succ, if_pos (by simp [h0, m1, m2]), nats_app, et]; rfl
      · have c2' : ¬ (!inV (.int ((1 : Int) + (j : Nat))) (nats gone)) = true := c2
        rw [et, nats_in] at c2'
        have m2 : 1 + j ∈ gone := by simpa using c2'
        exact ⟨_, rfl, s2, by rw [hr2, ← Nat.add_assoc, freeTo_succ, if_neg (by simp [m2]), List.append_nil]⟩
    · have c1' : ¬ V.int (dep es (1 + j) : Nat) = V.int (d : Nat) := of_decide_eq_false (Bool.eq_false_iff.mpr c1)
      have m1 : ¬ dep es (1 + j) = d := fun z => c1' (by rw [z])
      exact ⟨_, rfl, s2, by rw [hr2, ← Nat.add_assoc, freeTo_succ, if_neg (by simp [m1]), List.append_nil]⟩
  · rintro σ H2 ⟨tv, rfl, s2, hr2⟩
    have en : 1 + ((((nats es).length : Nat) : Int) + 1 - 1).toNat = es.length + 1 := by rw [nats_length]; omega
    rw [en] at hr2
    exact ⟨_, rfl, q r H2 nr s2 hr2⟩
theorem sc_level : FnScope ["elders", "plan", "gone", "k"] ["elders", "plan"] (defScope s_level) := ⟨rfl, rfl, rfl, by decide +kernel, rfl, by decide +kernel, by decide +kernel⟩
theorem ok_level (F : Fun K "_law_level_plan" "_law_level_plan" s_level f fd) (N : Nm mg) (D_law_free : DefOk P w K mg base CX0 "_law_free" 2 ["elders", "depth", "gone"] (spFree K)) (D_law_below : DefOk P w K mg base CX0 "_law_below" 1 ["elders", "thing"] (spBelowL K)) : FnOk P w K mg base CX0 3 f fd ["elders", "plan"] (spLevel K) := by
  refine F.ok sc_level (fun vs H Q E h => ?_) (fun cdv A outer s H vs Q E hr h => ?_)
  · obtain ⟨e, p, es, plan, rfl, _⟩ := h
    rfl
  obtain ⟨e, p, es, plan, rfl, he, hp, hE, h14, hp14, L, q⟩ := h
  have hnd := sc_level.nd
  have hpo := @PassesOwn.never
  have mn_range := N.range
  have mn_len := N.len
  have hu : (A.deeper (PyProof.Rows.envOfC "_law_level_plan" (defScope s_level) s.heap.objs.size f cdv)).units + 5 < cLine := by have := hr.units; omega
  refine ⟨_, (pss_cons (ps_set (i := 2) hnd rfl (by first | exact Or.inl rfl | exact Or.inr rfl) (pe_lst pa_nil))
    (pss_cons (ps_for hpo rfl (pi_range1 (by rfl) mn_range (pa_cons (pe_callB call_len_seq (by rfl) mn_len PySem.boot_len (pa_cons (pv 1) pa_nil)) pa_nil)) (pg_name (i := 3) hnd rfl (by first | exact Or.inl rfl | exact Or.inr rfl)) (pss_cons (ps_if (pt_cmpR op_notIn_seq (pe_ix ix_list (pv 1) (pv 3) (fun _ _ => rfl)) (pe_def D_law_free hr pass0 (pa_cons (pv 0) (pa_cons (pe_op op_add (pv 3) pe_int) (pa_cons (pv 2) pa_nil)))) (by rfl)) (pss_one (ps_ret pe_bl)) pss_nil)
      (pss_one (ps_set (i := 2) hnd rfl (by first | exact Or.inl rfl | exact Or.inr rfl) (pe_op op_cat (pv 2) (pe_def D_law_below hr pass0 (pa_cons (pv 0) (pa_cons (pe_ix ix_list (pv 1) (pv 3) (fun _ _ => rfl)) pa_nil))))))))
    (pss_one (ps_ret (pe_cmpR (op_eqL hu) (pe_def D_law_free hr pass0 (pa_cons (pv 0) (pa_cons (pe_op op_add (pe_callB call_len_seq (by rfl) mn_len PySem.boot_len (pa_cons (pv 1) pa_nil)) pe_int) (pa_cons (pv 2) pa_nil)))) (pe_lst pa_nil) (nomark _)))))), ?_⟩
  have zer : (0 : Nat) ≤ sizeLine := by decide
  refine ⟨zer, fun g0 n0 => ?_⟩
  have s1 := same_new n0 (.lst [])
  refine ⟨_, rfl, p, _, rfl, .inl (s1.seq hp), ((nats plan).length : Nat), rfl, by omega, by rw [nats_length]; omega, for_range (n := (((nats plan).length : Nat) : Int).toNat) (fun i σ H2 => ∃ (g : Addr) (gone : List Nat) (kv : Option V), σ = [some (.ref e), some (.ref p), some (.ref g), kv] ∧ Same H H2 ∧ H2 g = some (.lst (nats gone)) ∧ gone.length ≤ 15 * i ∧ LevelFrom es (i + 1) gone (plan.drop i))
    ⟨g0, [], none, rfl, s1, upd_same, Nat.zero_le _, L⟩ ?_ ?_⟩
  · rintro i σ H2 hi ⟨g, gone, kv, rfl, s2, hg, hgl, hL⟩
    rw [nats_length] at hi
    have hi' : i < plan.length := by omega
    have ei : (0 : Int) + (i : Nat) = (i : Nat) := by omega
    have ek : (0 : Int) + (i : Nat) + 1 = ((i + 1 : Nat) : Int) := by omega
    have hd : plan.drop i = plan.getD i 0 :: plan.drop (i + 1) := by
      rw [List.drop_eq_getElem_cons hi', List.getD_eq_getElem?_getD, List.getElem?_eq_getElem hi']; rfl
    rw [hd] at hL
    obtain ⟨hm, hL⟩ := hL
    have hv : atI (nats plan) ((0 : Int) + (i : Nat)) = some (.int (plan.getD i 0 : Nat)) := by rw [ei]; exact nats_at hi'
    have hle := (mem_free.mp hm).1.1
    refine ⟨_, rfl, _, rfl, p, _, _, _, rfl, rfl, s2.seq hp, hv, _, rfl, _, rfl, _, _, rfl, rfl, _, rfl, e, g, es, gone, i + 1, congrArg (fun z => [V.ref e, V.int z, V.ref g]) ek, s2.seq he, SqL.of hg, hE, h14, fun r H3 nr s3 hr3 => ⟨r, _, rfl, .inl (SqL.of hr3), rfl, nats_flat _, _, rfl, ite2 (fun c => ?_) (fun _ => ?_)⟩⟩
    · have c' : (!inV (.int (plan.getD i 0 : Nat)) (nats (free es (i + 1) gone))) = true := c
      rw [nats_in] at c'
      have : ¬ plan.getD i 0 ∈ free es (i + 1) gone := by simpa using c'
      exact absurd hm this
    have s23 := s2.trans s3
    refine ⟨_, rfl, _, rfl, _, rfl, _, rfl, p, _, _, _, rfl, rfl, s23.seq hp, hv, e, es, plan.getD i 0, rfl, s23.seq he, hE, h14, hle, fun l H4 nl s4 hl => ?_⟩
    have hbl : (below es (plan.getD i 0)).length ≤ es.length + 1 := belowTo_length es _ (es.length + 1)
    refine ⟨g, l, _, _, rfl, rfl, s4 _ _ (s3 _ _ hg), hl, small (by rw [nats_length, nats_length]; omega), fun g2 ng2 => ?_⟩
    exact ⟨g2, gone ++ below es (plan.getD i 0), _, rfl, s23.trans (s4.trans (same_new ng2 _)), by rw [upd_same, nats_app], by rw [List.length_append]; omega, hL⟩
  · rintro σ H2 ⟨g, gone, kv, rfl, s2, hg, hgl, hL⟩
    rw [nats_length] at hL
    have en : (((plan.length : Nat) : Int)).toNat = plan.length := by omega
    rw [en, List.drop_length] at hL
    have ek : (((nats plan).length : Nat) : Int) + 1 = ((plan.length + 1 : Nat) : Int) := by rw [nats_length]; omega
    have hL' : free es (plan.length + 1) gone = [] := hL
    refine ⟨_, rfl, _, rfl, p, _, rfl, .inl (s2.seq hp), _, _, rfl, rfl, _, rfl, e, g, es, gone, plan.length + 1, congrArg (fun z => [V.ref e, V.int z, V.ref g]) ek, s2.seq he, SqL.of hg, hE, h14, fun r H3 nr s3 hr3 => ⟨zer, fun g3 ng3 => ?_⟩⟩
    rw [hL'] at hr3
    have s4 := same_new ng3 (.lst [])
    refine ⟨r, g3, _, _, rfl, rfl, SqL.of (s4 _ _ hr3), SqL.of upd_same, .inr ⟨rfl, fun _ => true, (fun i x y e1 => nomatch e1), ?_⟩⟩
    exact q _ (s2.trans (s3.trans s4))
theorem sc_best : FnScope ["plot", "depth", "gone", "best", "thing"] ["plot", "depth", "gone"] (defScope s_best) := ⟨rfl, rfl, rfl, by decide +kernel, rfl, by decide +kernel, by decide +kernel⟩
theorem ok_bestN (F : Fun K "_law_best" "_law_best" s_best f fd) (N : Nm mg) (D_law_free : DefOk P w K mg base CX0 "_law_free" 2 ["elders", "depth", "gone"] (spFree K)) (D_law_below : DefOk P w K mg base CX0 "_law_below" 1 ["elders", "thing"] (spBelowL K))
    (D_law_worth : DefOk P w K mg base CX0 "_law_worth" 2 ["plot", "thing"] (spWorthL K)) (n : Nat) (sp : Sp) (D_law_best : DefOk P w K mg base CX0 "_law_best" (n + 2) ["plot", "depth", "gone"] sp) (hsp : ∀ vs H Q E, 0 < n → spBest K (n - 1) vs H Q E → sp vs H Q E) :
    FnOk P w K mg base CX0 (n + 3) f fd ["plot", "depth", "gone"] (spBest K n) := by
  refine F.ok sc_best (fun vs H Q E h => ?_) (fun cdv A outer s H vs Q E hr h => ?_)
  · obtain ⟨r, e, u, g, es, ws, gone, d, rfl, _⟩ := h
    rfl
  obtain ⟨r, e, u, g, es, ws, gone, d, rfl, hr1, he, hu1, hg, G, hdn, hgl, hd20, q⟩ := h
  have hnd := sc_best.nd
  have hpo := @PassesOwn.never
  have mn_max := N.max
  have hE : Eld es := G.lt
  have hlen := G.len
  have hmost := G.most
  refine ⟨_, (pss_cons (ps_set (i := 3) hnd rfl (by first | exact Or.inl rfl | exact Or.inr rfl) pe_int)
    (pss_cons (ps_for hpo rfl (pi_list (pe_def D_law_free hr pass0 (pa_cons (pe_ix ix_tup (pv 0) pe_int (fun _ _ => rfl)) (pa_cons (pv 1) (pa_cons (pv 2) pa_nil))) (by omega))) (pg_name (i := 4) hnd rfl (by first | exact Or.inl rfl | exact Or.inr rfl)) (pss_one (ps_set (i := 3) hnd rfl (by first | exact Or.inl rfl | exact Or.inr rfl) (pe_callB (call_max2 rfl) (by rfl) mn_max bo_max (pa_cons (pv 3) (pa_cons (pe_op op_add (pe_def D_law_worth hr pass0 (pa_cons (pv 0) (pa_cons (pv 4) pa_nil)) (by omega)) (pe_def D_law_best hr pass0 (pa_cons (pv 0) (pa_cons (pe_op op_add (pv 1) pe_int) (pa_cons (pe_op op_cat (pv 2) (pe_def D_law_below hr pass0 (pa_cons (pe_ix ix_tup (pv 0) pe_int (fun _ _ => rfl)) (pa_cons (pv 4) pa_nil)) (by omega))) pa_nil))) (by omega))) pa_nil))))))
    (pss_one (ps_ret (pv 3))))), ?_⟩
  refine ⟨_, rfl, r, _, _, _, rfl, rfl, hr1, rfl, _, rfl, _, rfl, e, g, es, gone, d, rfl, he, SqL.of hg, hE, by omega, fun l H1 nl s1 hl => ?_⟩
  have hfl : (free es d gone).length ≤ es.length + 1 := freeTo_length es d gone (es.length + 1)
  refine ⟨l, rfl, ⟨_, SqL.of hl⟩, for_list (xs := nats (free es d gone)) (fun i σ H2 => ∃ tv, σ = [some (.ref r), some (.int d), some (.ref g), some (.int ((((free es d gone).take i).foldl (fun b x => max b (worth es ws x + best es ws (n - 1) (d + 1) (gone ++ below es x))) 0 : Nat))), tv] ∧ Same H1 H2) ⟨none, rfl, Same.refl H1⟩ (fun i σ H2 _ ⟨_, _, s2⟩ => SqL.of (s2 _ _ hl)) ?_ ?_⟩
  · rintro i x σ H2 hx ⟨tv, rfl, s2⟩
    have hi : i < (free es d gone).length := by
      have := (List.getElem?_eq_some_iff.mp hx).1
      rwa [nats_length] at this
    rw [nats_get hi] at hx
    have e4 := Option.some.inj hx
    subst e4
    have hm : (free es d gone).getD i 0 ∈ free es d gone := by
      rw [List.getD_eq_getElem?_getD, List.getElem?_eq_getElem hi]
      exact List.getElem_mem hi
    obtain ⟨⟨hle, hpos⟩, hdep, _⟩ := mem_free.mp hm
    have hdl := dep_lt hE _ hle
    have n0 : 0 < n := by omega
    have s12 := s1.trans s2
    have ek : (d : Int) + 1 = ((d + 1 : Nat) : Int) := by omega
    have hbl : (below es ((free es d gone).getD i 0)).length ≤ es.length + 1 := belowTo_length es _ (es.length + 1)
    refine ⟨_, rfl, _, rfl, _, rfl, r, e, u, es, ws, (free es d gone).getD i 0, rfl, s12.tup hr1, s12.seq he, s12.seq hu1, G, hle, fun H3 s3 => ?_⟩
    have s13 := s12.trans s3
    refine ⟨_, rfl, _, rfl, _, _, rfl, rfl, _, rfl, _, rfl, r, _, _, _, rfl, rfl, s13.tup hr1, rfl, _, rfl, e, es, (free es d gone).getD i 0, rfl, s13.seq he, hE, by omega, hle, fun l2 H4 nl2 s4 hl2 => ?_⟩
    have s14 := s13.trans s4
    refine ⟨g, l2, _, _, rfl, rfl, s14 _ _ hg, hl2, small (by rw [nats_length, nats_length]; omega), fun g2 ng2 => ?_⟩
    have s5 := same_new ng2 (.lst (nats gone ++ nats (below es ((free es d gone).getD i 0))))
    have s15 := s14.trans s5
    refine hsp _ _ _ _ n0 ⟨r, e, u, g2, es, ws, gone ++ below es ((free es d gone).getD i 0), d + 1, congrArg (fun z => [V.ref r, V.int z, V.ref g2]) ek, s15.tup hr1, s15.seq he, s15.seq hu1, by rw [upd_same, nats_app], G, by omega, by rw [List.length_append]; omega, by omega, fun H6 s6 => ?_⟩
    refine ⟨_, _, rfl, rfl, _, _, rfl, ?_⟩
    refine ⟨some (.int ((free es d gone).getD i 0 : Nat)), ?_, s2.trans (s3.trans (s4.trans (s5.trans s6)))⟩
    rw [List.take_add_one, List.getElem?_eq_getElem hi, List.foldl_append]
    have eg : (free es d gone).getD i 0 = (free es d gone)[i] := by rw [List.getD_eq_getElem?_getD, List.getElem?_eq_getElem hi]; rfl
    rw [← eg, show (some ((free es d gone).getD i 0)).toList = [(free es d gone).getD i 0] from rfl, List.foldl_cons, List.foldl_nil]
    generalize ((free es d gone).take i).foldl (fun b x => max b (worth es ws x + best es ws (n - 1) (d + 1) (gone ++ below es x))) 0 = b0
    generalize worth es ws ((free es d gone).getD i 0) = b1
    generalize best es ws (n - 1) (d + 1) (gone ++ below es ((free es d gone).getD i 0)) = b2
    show [some (V.ref r), some (V.int d), some (V.ref g), some (V.int (if (b1 : Int) + (b2 : Nat) > (b0 : Nat) then (b1 : Int) + (b2 : Nat) else (b0 : Nat))), _] = [some (V.ref r), some (V.int d), some (V.ref g), some (V.int ((max b0 (b1 + b2) : Nat))), _]
    have ev : (if (b1 : Int) + (b2 : Nat) > (b0 : Nat) then (b1 : Int) + (b2 : Nat) else (b0 : Nat)) = ((max b0 (b1 + b2) : Nat) : Int) := by
      split <;> omega
    rw [ev]
  · rintro σ H2 ⟨tv, rfl, s2⟩
    rw [nats_length, List.take_length]
    refine ⟨_, rfl, ?_⟩
    have := q H2 (s1.trans s2)
    cases n with
    | zero =>
      have hf : free es d gone = [] := by
        cases hq : free es d gone with
        | nil => rfl
        | cons x t =>
          obtain ⟨⟨hle, _⟩, hdep, _⟩ := mem_free.mp (show x ∈ free es d gone by rw [hq]; exact List.mem_cons_self)
          have := dep_lt hE x hle
          omega
      rw [hf]
      exact this
    | succ m => exact this
theorem ok_best (F : Fun K "_law_best" "_law_best" s_best f fd) (b : Binds K fd ["plot", "depth", "gone"] []) (hk : PySem.W.keepIn K (.ref f) = true) (hm : mg "_law_best" = some (.ref f)) (N : Nm mg) (D_law_free : DefOk P w K mg base CX0 "_law_free" 2 ["elders", "depth", "gone"] (spFree K))
    (D_law_below : DefOk P w K mg base CX0 "_law_below" 1 ["elders", "thing"] (spBelowL K)) (D_law_worth : DefOk P w K mg base CX0 "_law_worth" 2 ["plot", "thing"] (spWorthL K)) : ∀ n, FnOk P w K mg base CX0 (n + 3) f fd ["plot", "depth", "gone"] (spBest K n)
  | 0 => ok_bestN F N D_law_free D_law_below D_law_worth 0 spNo ⟨f, fd, ⟨fun _ _ _ _ h => (show False from h).elim, fun _ _ _ _ _ _ _ _ _ _ _ _ _ h => (show False from h).elim⟩, b, hk, hm⟩ (fun _ _ _ _ h => absurd h (Nat.lt_irrefl 0))
  | n + 1 => ok_bestN F N D_law_free D_law_below D_law_worth (n + 1) (spBest K n) ⟨f, fd, ok_best F b hk hm N D_law_free D_law_below D_law_worth n, b, hk, hm⟩ (fun _ _ _ _ _ h => h)
end
end FT
set_option Elab.async false
set_option maxHeartbeats 4000000
set_option maxRecDepth 20000
namespace FT
open PySem L2 TM
abbrev s_lengths : Stmt := (top 19)
abbrev s_chkE : Stmt := (top 20)
abbrev s_chkW : Stmt := (top 21)
abbrev s_init : Stmt := (inClass (top 22) 0)
abbrev s_getE : Stmt := (inClass (top 22) 1)
abbrev s_getW : Stmt := (inClass (top 22) 2)
abbrev s_things : Stmt := (inClass (top 22) 3)
abbrev s_chk : Stmt := (inClass (top 22) 7)
/-- what the walk asks of the class Tree, and of the two numbers at the top -/
structure Txt (K : PySem.W.Frag) (mg : Str → Option Value) (C : Addr) : Prop where
  cl : Cls K C
  nE : NoAttr K C "elder_row"
  nW : NoAttr K C "worth_row"
  th : ∃ tk, mg "MOST_THINGS" = some (.int 14 tk)
  wo : ∃ tk, mg "MOST_WORTH" = some (.int 1000 tk)
section
variable {P : Program} {w : World} {K : PySem.W.Frag} {mg : Str → Option Value} {base : Heap} {f C : Addr} {fd : FuncData}
theorem sc_lengths : FnScope ["elders", "worths"] ["elders", "worths"] (defScope s_lengths) := ⟨rfl, rfl, rfl, by decide +kernel, rfl, by decide +kernel, by decide +kernel⟩
theorem ok_lengths (F : Fun K "check_lengths" "check_lengths" s_lengths f fd) (N : Nm mg) (T : Txt K mg C) : FnOk P w K mg base CX0 1 f fd ["elders", "worths"] (spLengths K) := by
  refine F.ok sc_lengths (fun vs H Q E h => ?_) (fun cdv A outer s H vs Q E hr h => ?_)
  · obtain ⟨a, b, es, ws, rfl, _⟩ := h
    rfl
  obtain ⟨a, b, es, ws, rfl, ha, hb, G, q⟩ := h
  have mn_len := N.len
  obtain ⟨tk, hm_MOST_THINGS⟩ := T.th
  have hlen := G.len
  have hmost := G.most
  refine ⟨_, (pss_cons (ps_if (PW.pt (pw_or (pt_cmpR op_lt (pe_callB call_len_seq (by rfl) mn_len PySem.boot_len (pa_cons (pv 1) pa_nil)) pe_int (nomark _)) (pw_or1 (pt_cmpR op_gt (pe_callB call_len_seq (by rfl) mn_len PySem.boot_len (pa_cons (pv 1) pa_nil)) (pe_const hm_MOST_THINGS) (nomark _))))) (pss_one ps_never) pss_nil)
    (pss_one (ps_if (pt_cmpR op_ne (pe_callB call_len_seq (by rfl) mn_len PySem.boot_len (pa_cons (pv 0) pa_nil)) (pe_op op_sub (pe_callB call_len_seq (by rfl) mn_len PySem.boot_len (pa_cons (pv 1) pa_nil)) pe_int) (nomark _)) (pss_one ps_never) pss_nil))), ?_⟩
  refine ⟨_, rfl, b, _, rfl, .inl hb, _, _, rfl, rfl, _, rfl, ite2 (fun c => ?_) (fun _ => ?_)⟩
  · have c' : (((nats ws).length : Nat) : Int) < 1 := of_decide_eq_true c
    rw [nats_length] at c'
    exact absurd c' (by omega)
  refine ⟨_, rfl, b, _, rfl, .inl hb, _, _, rfl, rfl, _, rfl, ite2 (fun c => ?_) (fun _ => ?_)⟩
  · have c' : (14 : Int) < (((nats ws).length : Nat) : Int) := of_decide_eq_true c
    rw [nats_length] at c'
    exact absurd c' (by omega)
  refine ⟨_, rfl, a, _, rfl, .inl ha, _, rfl, b, _, rfl, .inl hb, _, _, rfl, rfl, rfl, _, rfl, ?_⟩
  refine iteNS ?_ q
  rw [nats_length, nats_length]
  exact congrArg V.int (by omega)
theorem sc_chkE : FnScope ["elders", "thing", "elder"] ["elders"] (defScope s_chkE) := ⟨rfl, rfl, rfl, by decide +kernel, rfl, by decide +kernel, by decide +kernel⟩
theorem ok_chkE (F : Fun K "check_elders" "check_elders" s_chkE f fd) (N : Nm mg) : FnOk P w K mg base CX0 1 f fd ["elders"] spChkE := by
  refine F.ok sc_chkE (fun vs H Q E h => ?_) (fun cdv A outer s H vs Q E hr h => ?_)
  · obtain ⟨a, es, rfl, _⟩ := h
    rfl
  obtain ⟨a, es, rfl, ha, hE, h14, q⟩ := h
  have mn_enumerate := N.enumerate
  have hnd := sc_chkE.nd
  have hpo := @PassesOwn.never
  refine ⟨_, (pss_one (ps_for hpo rfl (pi_enumS mn_enumerate (pa_cons (pv 0) pa_nil)) (pg_tup rfl (pgs_cons (pg_name (i := 1) hnd rfl (by first | exact Or.inl rfl | exact Or.inr rfl)) (pgs_cons (pg_name (i := 2) hnd rfl (by first | exact Or.inl rfl | exact Or.inr rfl)) pgs_nil))) (pss_one (ps_if (PW.pt (pw_or (pt_cmpR op_lt (pv 2) pe_int (nomark _)) (pw_or1 (pt_cmpR op_ge (pv 2) (pv 1) (nomark _))))) (pss_one ps_never) pss_nil)))), ?_⟩
  refine ⟨_, rfl, a, _, rfl, ha, for_enum (xs := nats es) (fun i σ H2 => ∃ u v, σ = [some (.ref a), u, v] ∧ Same H H2) ⟨none, none, rfl, Same.refl H⟩ (fun i σ H2 _ ⟨_, _, _, s2⟩ => SqL.of (s2 _ _ ha)) ?_ ?_⟩
  · rintro i x σ H2 p hx ⟨u, v, rfl, s2⟩ hp
    have hi : i < es.length := by
      have := (List.getElem?_eq_some_iff.mp hx).1
      rwa [nats_length] at this
    rw [nats_get hi] at hx
    have e4 := Option.some.inj hx
    subst e4
    have hel := hE i hi
    refine ⟨p, _, rfl, SqT.of upd_same, rfl, _, _, rfl, _, _, rfl, rfl, ?_⟩
    refine ⟨_, rfl, _, _, rfl, rfl, _, rfl, ite2 (fun c => ?_) (fun _ => ?_)⟩
    · have c' : ((es.getD i 0 : Nat) : Int) < 0 := of_decide_eq_true c
      exact absurd c' (by omega)
    refine ⟨_, rfl, _, rfl, _, _, rfl, rfl, _, rfl, ite2 (fun c => ?_) (fun _ => ?_)⟩
    · have c' : (1 : Int) + (i : Nat) ≤ ((es.getD i 0 : Nat) : Int) := of_decide_eq_true c
      exact absurd c' (by omega)
    exact ⟨_, _, rfl, s2.trans (same_new hp _)⟩
  · rintro σ H2 ⟨u, v, rfl, s2⟩
    exact q H2 s2
theorem sc_chkW : FnScope ["worths", "worth"] ["worths"] (defScope s_chkW) := ⟨rfl, rfl, rfl, by decide +kernel, rfl, by decide +kernel, by decide +kernel⟩
theorem ok_chkW (F : Fun K "check_worths" "check_worths" s_chkW f fd) (T : Txt K mg C) : FnOk P w K mg base CX0 1 f fd ["worths"] (spChkW K) := by
  refine F.ok sc_chkW (fun vs H Q E h => ?_) (fun cdv A outer s H vs Q E hr h => ?_)
  · obtain ⟨a, ws, rfl, _⟩ := h
    rfl
  obtain ⟨a, ws, rfl, ha, h14, hW, q⟩ := h
  have hnd := sc_chkW.nd
  have hpo := @PassesOwn.never
  obtain ⟨tk, hm_MOST_WORTH⟩ := T.wo
  refine ⟨_, (pss_one (ps_for hpo rfl (pi_list (pv 0)) (pg_name (i := 1) hnd rfl (by first | exact Or.inl rfl | exact Or.inr rfl)) (pss_one (ps_if (PW.pt (pw_or (pt_cmpR op_lt (pv 1) pe_int (nomark _)) (pw_or1 (pt_cmpR op_gt (pv 1) (pe_const hm_MOST_WORTH) (nomark _))))) (pss_one ps_never) pss_nil)))), ?_⟩
  refine ⟨_, rfl, a, rfl, ⟨_, ha⟩, for_list (xs := nats ws) (fun i σ H2 => ∃ u, σ = [some (.ref a), u] ∧ H2 = H) ⟨none, rfl, rfl⟩ (fun i σ H2 _ ⟨_, _, e⟩ => by rw [e]; exact ha) ?_ ?_⟩
  · rintro i x σ H2 hx ⟨u, rfl, rfl⟩
    have hi : i < ws.length := by
      have := (List.getElem?_eq_some_iff.mp hx).1
      rwa [nats_length] at this
    rw [nats_get hi] at hx
    have e4 := Option.some.inj hx
    subst e4
    have hm : ws.getD i 0 ≤ 1000 := hW _ (by rw [List.getD_eq_getElem?_getD, List.getElem?_eq_getElem hi]; exact List.getElem_mem hi)
    refine ⟨_, rfl, _, _, rfl, rfl, _, rfl, ite2 (fun c => ?_) (fun _ => ?_)⟩
    · have c' : ((ws.getD i 0 : Nat) : Int) < 0 := of_decide_eq_true c
      exact absurd c' (by omega)
    refine ⟨_, rfl, _, _, rfl, rfl, _, rfl, ite2 (fun c => ?_) (fun _ => ?_)⟩
    · have c' : (1000 : Int) < ((ws.getD i 0 : Nat) : Int) := of_decide_eq_true c
      exact absurd c' (by omega)
    exact ⟨_, rfl, rfl⟩
  · rintro σ H2 ⟨u, rfl, rfl⟩
    exact q
theorem sc_init : FnScope ["self", "elders", "worths"] ["self", "elders", "worths"] (defScope s_init) := ⟨rfl, rfl, rfl, by decide +kernel, rfl, by decide +kernel, by decide +kernel⟩
theorem ok_init (F : Fun K "__init__" "Tree.__init__" s_init f fd) (N : Nm mg) (T : Txt K mg C) (Dcheck_lengths : DefOk P w K mg base CX0 "check_lengths" 1 ["elders", "worths"] (spLengths K))
    (Dcheck_elders : DefOk P w K mg base CX0 "check_elders" 1 ["elders"] spChkE) (Dcheck_worths : DefOk P w K mg base CX0 "check_worths" 1 ["worths"] (spChkW K)) : FnOk P w K mg base CX0 2 f fd ["self", "elders", "worths"] (spInit C) := by
  refine F.ok sc_init (fun vs H Q E h => ?_) (fun cdv A outer s H vs Q E hr h => ?_)
  · obtain ⟨x, dx, a, b, es, ws, rfl, _⟩ := h
    rfl
  obtain ⟨x, dx, a, b, es, ws, rfl, hx, ha, hb, G, q⟩ := h
  have mn_tuple := N.tuple
  have hlen := G.len
  have hmost := G.most
  refine ⟨_, (pss_cons (ps_expr (pe_def Dcheck_lengths hr pass0 (pa_cons (pv 1) (pa_cons (pv 2) pa_nil))))
    (pss_cons (ps_expr (pe_def Dcheck_elders hr pass0 (pa_cons (pv 1) pa_nil)))
    (pss_cons (ps_expr (pe_def Dcheck_worths hr pass0 (pa_cons (pv 2) pa_nil)))
    (pss_cons (ps_fld (pv 0) (pe_callTy call_tuple_of (by rfl) mn_tuple bo_tuple (pa_cons (pv 1) pa_nil)) rfl)
    (pss_one (ps_fld (pv 0) (pe_callTy call_tuple_of (by rfl) mn_tuple bo_tuple (pa_cons (pv 2) pa_nil)) rfl)))))), ?_⟩
  refine ⟨_, rfl, _, rfl, a, b, es, ws, rfl, SqL.of ha, SqL.of hb, G, ?_⟩
  refine ⟨_, rfl, a, es, rfl, ha, G.lt, by omega, fun H2 s2 => ?_⟩
  refine ⟨_, rfl, b, ws, rfl, SqL.of (s2 _ _ hb), hmost, G.wo, ?_⟩
  have hx2 := s2 _ _ hx
  refine ⟨_, rfl, a, _, rfl, .inl ⟨SqL.of (s2 _ _ ha), fun p hp => ?_⟩⟩
  have s3 := same_new hp (.tup (nats es))
  refine ⟨_, rfl, x, C, dx, _, rfl, s3 _ _ hx2, T.cl, T.nE, (by show 0 < 1000; decide), ?_⟩
  have nxa : a ≠ x := ne_of (s2 _ _ ha) hx2 (by intro z; cases z)
  have nxb : b ≠ x := ne_of (s2 _ _ hb) hx2 (by intro z; cases z)
  have nxp : p ≠ x := (ne_of_none hx2 hp).symm
  refine ⟨_, rfl, b, _, rfl, .inl ⟨SqL.of (by rw [upd_ne nxb]; exact s3 _ _ (s2 _ _ hb)), fun r hr0 => ?_⟩⟩
  have nrx : x ≠ r := fun e => by rw [← e, upd_same] at hr0; cases hr0
  have nrp : p ≠ r := fun e => by rw [← e, upd_ne nxp, upd_same] at hr0; cases hr0
  refine ⟨_, rfl, x, C, dx, _, rfl, (by rw [upd_ne nrx, upd_same]), T.cl, T.nW, (by show 1 < 1000; decide), ?_⟩
  refine q _ (fun c o hc e => ?_) ⟨dx, p, r, upd_same, ?_, ?_⟩
  · have e2 := s2 _ _ e
    have cp : c ≠ p := ne_of_none e2 hp
    have cr : c ≠ r := fun z => by rw [← z, upd_ne hc, upd_ne cp, e2] at hr0; cases hr0
    rw [upd_ne hc, upd_ne cr, upd_ne hc, upd_ne cp]
    exact e2
  · rw [upd_ne nxp, upd_ne nrp, upd_ne nxp, upd_same]
  · rw [upd_ne nrx.symm, upd_same]
theorem sc_getE : FnScope ["self"] ["self"] (defScope s_getE) := ⟨rfl, rfl, rfl, by decide +kernel, rfl, by decide +kernel, by decide +kernel⟩
theorem ok_getE (F : Fun K "elders" "Tree.elders" s_getE f fd) (N : Nm mg) (T : Txt K mg C) : FnOk P w K mg base CX0 1 f fd ["self"] (spGetE C) := by
  refine F.ok sc_getE (fun vs H Q E h => ?_) (fun cdv A outer s H vs Q E hr h => ?_)
  · obtain ⟨x, es, ws, rfl, _⟩ := h
    rfl
  obtain ⟨x, es, ws, rfl, ⟨dx, p, r, hx, hp, hr0⟩, q⟩ := h
  have mn_list := N.list
  refine ⟨_, (pss_one (ps_ret (pe_callTy call_list_of (by rfl) mn_list bo_list (pa_cons (pe_fld (pv 0) rfl) pa_nil)))), ?_⟩
  exact ⟨_, rfl, x, C, dx, _, _, rfl, hx, T.cl, T.nE, row_e _ _, p, _, rfl, .inr (SqT.of hp), q⟩
theorem sc_getW : FnScope ["self"] ["self"] (defScope s_getW) := ⟨rfl, rfl, rfl, by decide +kernel, rfl, by decide +kernel, by decide +kernel⟩
theorem ok_getW (F : Fun K "worths" "Tree.worths" s_getW f fd) (N : Nm mg) (T : Txt K mg C) : FnOk P w K mg base CX0 1 f fd ["self"] (spGetW C) := by
  refine F.ok sc_getW (fun vs H Q E h => ?_) (fun cdv A outer s H vs Q E hr h => ?_)
  · obtain ⟨x, es, ws, rfl, _⟩ := h
    rfl
  obtain ⟨x, es, ws, rfl, ⟨dx, p, r, hx, hp, hr0⟩, q⟩ := h
  have mn_list := N.list
  refine ⟨_, (pss_one (ps_ret (pe_callTy call_list_of (by rfl) mn_list bo_list (pa_cons (pe_fld (pv 0) rfl) pa_nil)))), ?_⟩
  exact ⟨_, rfl, x, C, dx, _, _, rfl, hx, T.cl, T.nW, row_w _ _, r, _, rfl, .inr (SqT.of hr0), q⟩
theorem sc_things : FnScope ["self"] ["self"] (defScope s_things) := ⟨rfl, rfl, rfl, by decide +kernel, rfl, by decide +kernel, by decide +kernel⟩
theorem ok_things (F : Fun K "things" "Tree.things" s_things f fd) (N : Nm mg) (T : Txt K mg C) : FnOk P w K mg base CX0 1 f fd ["self"] (spThings C) := by
  refine F.ok sc_things (fun vs H Q E h => ?_) (fun cdv A outer s H vs Q E hr h => ?_)
  · obtain ⟨x, es, ws, rfl, _⟩ := h
    rfl
  obtain ⟨x, es, ws, rfl, ⟨dx, p, r, hx, hp, hr0⟩, q⟩ := h
  have mn_len := N.len
  refine ⟨_, (pss_one (ps_ret (pe_callB call_len_seq (by rfl) mn_len PySem.boot_len (pa_cons (pe_fld (pv 0) rfl) pa_nil)))), ?_⟩
  refine ⟨_, rfl, x, C, dx, _, _, rfl, hx, T.cl, T.nW, row_w _ _, r, _, rfl, .inr (SqT.of hr0), ?_⟩
  rw [nats_length]; exact q
theorem sc_chk : FnScope ["self", "thing"] ["self", "thing"] (defScope s_chk) := ⟨rfl, rfl, rfl, by decide +kernel, rfl, by decide +kernel, by decide +kernel⟩
theorem ok_chk (F : Fun K "check_thing" "Tree.check_thing" s_chk f fd) (Mthings : MethOk P w K mg base CX0 C "things" 1 ["self"] (spThings C)) : FnOk P w K mg base CX0 2 f fd ["self", "thing"] (spChk C) := by
  refine F.ok sc_chk (fun vs H Q E h => ?_) (fun cdv A outer s H vs Q E hr h => ?_)
  · obtain ⟨x, es, ws, t, rfl, _⟩ := h
    rfl
  obtain ⟨x, es, ws, t, rfl, I, G, ht, q⟩ := h
  obtain ⟨dx, p, r, hx, hp, hr0⟩ := id I
  have hlen := G.len
  refine ⟨_, (pss_one (ps_if (PW.pt (pw_or (pt_cmpR op_lt (pv 1) pe_int (nomark _)) (pw_or1 (pt_cmpR op_ge (pv 1) (pe_me0 (pv 0) Mthings hr pass0) (nomark _))))) (pss_one ps_never) pss_nil)), ?_⟩
  refine ⟨_, rfl, _, _, rfl, rfl, _, rfl, ite2 (fun c => ?_) (fun _ => ?_)⟩
  · have c' : (t : Int) < 0 := of_decide_eq_true c
    exact absurd c' (by omega)
  refine ⟨_, rfl, _, rfl, x, dx, _, rfl, hx, row_no _ _ (by decide +kernel) (by decide +kernel), x, es, ws, rfl, I, _, _, rfl, rfl, _, rfl, ite2 (fun c => ?_) (fun _ => ?_)⟩
  · have c' : ((ws.length : Nat) : Int) ≤ (t : Int) := of_decide_eq_true c
    exact absurd c' (by omega)
  exact q
end
end FT
set_option Elab.async false
set_option maxHeartbeats 4000000
set_option maxRecDepth 20000
namespace FT
open PySem L2 TM
abbrev s_depth : Stmt := (inClass (top 22) 4)
abbrev s_below : Stmt := (inClass (top 22) 5)
section
variable {P : Program} {w : World} {K : PySem.W.Frag} {mg : Str → Option Value} {base : Heap} {f C : Addr} {fd : FuncData}
theorem sc_depth : FnScope ["self", "thing", "steps", "current"] ["self", "thing"] (defScope s_depth) := ⟨rfl, rfl, rfl, by decide +kernel, rfl, by decide +kernel, by decide +kernel⟩
theorem ok_depth (F : Fun K "depth" "Tree.depth" s_depth f fd) (T : Txt K mg C) (Mcheck_thing : MethOk P w K mg base CX0 C "check_thing" 2 ["self", "thing"] (spChk C)) : FnOk P w K mg base CX0 3 f fd ["self", "thing"] (spDepth C) := by
  refine F.ok sc_depth (fun vs H Q E h => ?_) (fun cdv A outer s H vs Q E hr h => ?_)
  · obtain ⟨x, es, ws, t, rfl, _⟩ := h
    rfl
  obtain ⟨x, es, ws, t, rfl, I, G, ht, q⟩ := h
  obtain ⟨dx, p, r, hx, hp, hr0⟩ := id I
  have hE : Eld es := G.lt
  have hnd := sc_depth.nd
  have hpo := @PassesOwn.never
  refine ⟨_, (pss_cons (ps_expr (pe_me (pv 0) Mcheck_thing hr pass0 (pa_cons (pv 1) pa_nil)))
    (pss_cons (ps_set (i := 2) hnd rfl (by first | exact Or.inl rfl | exact Or.inr rfl) pe_int)
    (pss_cons (ps_set (i := 3) hnd rfl (by first | exact Or.inl rfl | exact Or.inr rfl) (pv 1))
    (pss_cons (ps_while hpo (pt_cmpR op_gt (pv 3) pe_int (nomark _)) (pss_cons (ps_set (i := 3) hnd rfl (by first | exact Or.inl rfl | exact Or.inr rfl) (pe_ix ix_tup (pe_fld (pv 0) rfl) (pe_op op_sub (pv 3) pe_int) (fun _ _ => rfl)))
      (pss_one (ps_set (i := 2) hnd rfl (by first | exact Or.inl rfl | exact Or.inr rfl) (pe_op op_add (pv 2) pe_int)))))
    (pss_one (ps_ret (pv 2))))))), ?_⟩
  refine ⟨_, rfl, x, dx, _, rfl, hx, row_no _ _ (by decide +kernel) (by decide +kernel), _, rfl, x, es, ws, t, rfl, I, G, ht, ?_⟩
  refine ⟨_, rfl, ?_⟩
  refine while_by (fun σ H2 => H2 = H ∧ ∃ (u st : Nat), σ = [some (.ref x), some (.int t), some (.int st), some (.int u)] ∧ u ≤ es.length ∧ st + dep es u = dep es t) (fun σ _ => match σ with | [_, _, _, some (.int u)] => u.toNat | _ => 0) ⟨rfl, t, 0, rfl, ht, by omega⟩ ?_
    (fun σ H Q Q' hq ⟨v, e, i, j, e1, e2, k, ek, q⟩ => ⟨v, e, i, j, e1, e2, k, ek, hq _ _ q⟩)
  rintro σ H2 ⟨rfl, u, st, rfl, hu, hd⟩
  refine ⟨_, rfl, _, _, rfl, rfl, _, rfl, ite2 (fun c => ?_) (fun c => ?_)⟩
  · have c' : (0 : Int) < (u : Int) := of_decide_eq_true c
    have hu0 : 0 < u := by omega
    have e1 : ((u : Int) - 1) = ((u - 1 : Nat) : Int) := by omega
    have hl := hE.el hu0 hu
    refine ⟨_, rfl, x, C, dx, _, _, rfl, hx, T.cl, T.nE, row_e _ _, _, rfl, _, _, rfl, rfl, p, _, _, _, rfl, rfl, SqT.of hp, (by rw [e1]; exact nats_at (by omega)), _, rfl, _, _, rfl, rfl, ?_⟩
    have dp := dep_pos hE hu0 hu
    refine ⟨⟨rfl, el es u, st + 1, rfl, by omega, by omega⟩, ?_⟩
    show (((el es u : Nat) : Int)).toNat < ((u : Int)).toNat
    omega
  · have c' : ¬ (0 : Int) < (u : Int) := of_decide_eq_false (Bool.eq_false_iff.mpr c)
    have hu0 : u = 0 := by omega
    subst hu0
    rw [dep_zero] at hd
    refine ⟨_, rfl, ?_⟩
    have : st = dep es t := by omega
    subst this
    exact q
theorem sc_below : FnScope ["self", "thing", "found", "other"] ["self", "thing"] (defScope s_below) := ⟨rfl, rfl, rfl, by decide +kernel, rfl, by decide +kernel, by decide +kernel⟩
theorem ok_below (F : Fun K "below" "Tree.below" s_below f fd) (N : Nm mg) (T : Txt K mg C) (Mcheck_thing : MethOk P w K mg base CX0 C "check_thing" 2 ["self", "thing"] (spChk C)) (Mthings : MethOk P w K mg base CX0 C "things" 1 ["self"] (spThings C)) :
    FnOk P w K mg base CX0 3 f fd ["self", "thing"] (spBelow C) := by
  refine F.ok sc_below (fun vs H Q E h => ?_) (fun cdv A outer s H vs Q E hr h => ?_)
  · obtain ⟨x, es, ws, t, rfl, _⟩ := h
    rfl
  obtain ⟨x, es, ws, t, rfl, I, G, ht, q⟩ := h
  obtain ⟨dx, p, r, hx, hp, hr0⟩ := id I
  have hE : Eld es := G.lt
  have hlen := G.len
  have hmost := G.most
  have hnd := sc_below.nd
  have hpo := @PassesOwn.never
  have mn_range := N.range
  refine ⟨_, (pss_cons (ps_expr (pe_me (pv 0) Mcheck_thing hr pass0 (pa_cons (pv 1) pa_nil)))
    (pss_cons (ps_set (i := 2) hnd rfl (by first | exact Or.inl rfl | exact Or.inr rfl) (pe_lst (pa_cons (pv 1) pa_nil)))
    (pss_cons (ps_for hpo rfl (pi_range2 (by rfl) mn_range (pa_cons (pe_op op_add (pv 1) pe_int) (pa_cons (pe_me0 (pv 0) Mthings hr pass0) pa_nil))) (pg_name (i := 3) hnd rfl (by first | exact Or.inl rfl | exact Or.inr rfl)) (pss_one (ps_if (pt_cmpR op_in_seq (pe_ix ix_tup (pe_fld (pv 0) rfl) (pe_op op_sub (pv 3) pe_int) (fun _ _ => rfl)) (pv 2) (by rfl)) (pss_one (ps_expr (pe_bm PySem.F.plainAttrs_list PySem.F.slot_list_append PySem.F.type_list_append mt_append (pv 2) (pa_cons (pv 3) pa_nil)))) pss_nil)))
    (pss_one (ps_ret (pv 2)))))), ?_⟩
  refine ⟨_, rfl, x, dx, _, rfl, hx, row_no _ _ (by decide +kernel) (by decide +kernel), _, rfl, x, es, ws, t, rfl, I, G, ht, ?_⟩
  refine ⟨_, rfl, (by show 1 ≤ sizeLine; decide), fun l hl0 => ?_⟩
  have s1 := same_new hl0 (.lst [.int (t : Int)])
  refine ⟨_, rfl, _, _, rfl, rfl, _, rfl, x, dx, _, rfl, s1 _ _ hx, row_no _ _ (by decide +kernel) (by decide +kernel), x, es, ws, rfl, I.same s1, (t : Int) + 1, (ws.length : Nat), rfl, ⟨by omega, by omega, by omega, by omega⟩,
    for_range (lo := (t : Int) + 1) (n := (((ws.length : Nat) : Int) - ((t : Int) + 1)).toNat) (fun i σ H2 => ∃ ov, σ = [some (.ref x), some (.int t), some (.ref l), ov] ∧ Same H H2 ∧ H2 l = some (.lst (nats (belowTo es t (t + 1 + i))))) ⟨none, rfl, s1, ?_⟩ ?_ ?_⟩
  · rw [upd_same, Nat.add_zero, belowTo_start]; rfl
  · rintro i σ H2 hi ⟨ov, rfl, s2, hl⟩
    have eo : (t : Int) + 1 + (i : Nat) = ((t + 1 + i : Nat) : Int) := by omega
    have e1 : (t : Int) + 1 + (i : Nat) - 1 = ((t + 1 + i - 1 : Nat) : Int) := by omega
    have ho : t + 1 + i ≤ es.length := by omega
    have hin := nats_in (belowTo es t (t + 1 + i)) (el es (t + 1 + i))
    have bt := belowTo_turn hE (thing := t) (o := t + 1 + i) (by omega) ho
    refine ⟨_, rfl, x, C, dx, _, _, rfl, s2 _ _ hx, T.cl, T.nE, row_e _ _, _, rfl, _, _, rfl, rfl, p, _, _, _, rfl, rfl, SqT.of (s2 _ _ hp), (by rw [e1]; exact nats_at (by omega)), _, rfl, l, _, rfl, .inl (SqL.of hl), rfl, nats_flat _, _, rfl, ite2 (fun c => ?_) (fun c => ?_)⟩
    · have c' : inV (.int (el es (t + 1 + i) : Nat)) (nats (belowTo es t (t + 1 + i))) = true := c
      rw [hin] at c'
      have hm := of_decide_eq_true c'
      refine ⟨_, rfl, .inl ⟨rfl, _, SqL.of hl⟩, _, rfl, l, _, _, rfl, rfl, hl, small1000 (by rw [nats_length]; have := belowTo_length es t (t + 1 + i); omega), ?_⟩
      refine ⟨_, rfl, same_upd s2 hl0, ?_⟩
      rw [upd_same, ← Nat.add_assoc, bt, if_pos hm, nats_app, eo]; rfl
    · have c' : ¬ inV (.int (el es (t + 1 + i) : Nat)) (nats (belowTo es t (t + 1 + i))) = true := c
      rw [hin] at c'
      have hm : ¬ el es (t + 1 + i) ∈ belowTo es t (t + 1 + i) := fun z => c' (decide_eq_true z)
      refine ⟨_, rfl, s2, ?_⟩
      rw [hl, ← Nat.add_assoc, bt, if_neg hm]
  · rintro σ H2 ⟨ov, rfl, s2, hl⟩
    refine ⟨_, rfl, q l H2 hl0 s2 ?_⟩
    rw [hl]
    have : t + 1 + (((ws.length : Nat) : Int) - ((t : Int) + 1)).toNat = es.length + 1 := by omega
    rw [this]; rfl
end
end FT
set_option Elab.async false
set_option maxHeartbeats 4000000
set_option maxRecDepth 20000
namespace FT
open PySem L2 TM
/-- the class of a fault -/
def fc (CN CP : Addr) (c : Nat) : Addr := if c = 1 then CN else CP
/-- new lists of numbers in a new list -/
def FRows (H H' : Hp) (r : Addr) (rs : List (List Nat)) : Prop :=
  ∃ ls : List Addr, ls.length = rs.length ∧ H' r = some (.lst (ls.map V.ref)) ∧ (∀ l ∈ ls, H l = none ∧ l ≠ r) ∧ ∀ (i : Nat) l, ls[i]? = some l → H' l = some (.lst (nats (rs.getD i [])))
section
variable (K : PySem.W.Frag) (C CN CP : Addr)
/-- burnt(tree, plan), saved(tree, plan): with their refusals -/
def spBurntX : Sp := fun vs H Q E => ∃ (x p : Addr) (es ws : List Nat) (plan : List (Option Int)), vs = [.ref x, .ref p] ∧ IsTree C H x es ws ∧ H p = some (.lst (optVs plan)) ∧ Good es ws ∧ plan.length ≤ 20 ∧
  (∀ k c, k < plan.length → (∀ j, j < k → flt es plan j = 0) → flt es plan k = c → c ≠ 0 → ∀ H', Same H H' → E (.ref (fc CN CP c)) none H') ∧
  ((∀ j, j < plan.length → flt es plan j = 0) → ∀ r rs H', Same H H' → H r = none → FRows H H' r rs → IsRows es (tn plan) rs → Q (.ref r) H')
def spSavedX : Sp := fun vs H Q E => ∃ (x p : Addr) (es ws : List Nat) (plan : List (Option Int)), vs = [.ref x, .ref p] ∧ IsTree C H x es ws ∧ H p = some (.lst (optVs plan)) ∧ Good es ws ∧ plan.length ≤ 20 ∧
  (∀ k c, k < plan.length → (∀ j, j < k → flt es plan j = 0) → flt es plan k = c → c ≠ 0 → ∀ H', Same H H' → E (.ref (fc CN CP c)) none H') ∧
  ((∀ j, j < plan.length → flt es plan j = 0) → ∀ H', Same H H' → Q (.int (savedAt es ws (tn plan) (plan.length + es.length + 1) : Nat)) H')
end
end FT
set_option Elab.async false
set_option maxHeartbeats 4000000
set_option maxRecDepth 20000
namespace FT
open PySem L2 TM
abbrev s_step : Stmt := (top 7)
abbrev s_catch : Stmt := (top 8)
abbrev s_burnt : Stmt := (top 9)
abbrev s_saved : Stmt := (top 10)
/-- an error class that can be raised -/
structure ExcR (K : PySem.W.Frag) (mg : Str → Option Value) (x : Str) (C : Addr) : Prop where
  nm : mg x = some (.ref C)
  rs : PySem.W.excIn K C bmVE "ValueError.__new__" = true
theorem getD_mem {l : List Nat} {j : Nat} (h : j < l.length) : l.getD j 0 ∈ l := by
  rw [List.getD_eq_getElem?_getD, List.getElem?_eq_getElem h]
  exact List.getElem_mem h
/-- new lists of numbers in a list, none of them one of ex -/
def FRowsX (H H' : Hp) (r : Addr) (rs : List (List Nat)) (ex : List Addr) : Prop :=
  ∃ ls : List Addr, ls.length = rs.length ∧ H' r = some (.lst (ls.map V.ref)) ∧ (∀ l ∈ ls, H l = none ∧ l ∉ ex) ∧ ∀ (i : Nat) l, ls[i]? = some l → H' l = some (.lst (nats (rs.getD i [])))
theorem FRowsX.same {H0 H H' : Hp} {r : Addr} {rs : List (List Nat)} {ex : List Addr} (h : FRowsX H0 H r rs ex) (s : Same H H') : FRowsX H0 H' r rs ex := by
  obtain ⟨ls, a, b, c, d⟩ := h
  exact ⟨ls, a, s _ _ b, c, fun i l e => s _ _ (d i l e)⟩
theorem FRowsX.upd {H0 H : Hp} {r c : Addr} {rs : List (List Nat)} {ex : List Addr} {o : HO} (h : FRowsX H0 H r rs ex) (hc : c ∈ ex) (hr : r ≠ c) : FRowsX H0 (L2.upd H c o) r rs ex := by
  obtain ⟨ls, a, b, d, e⟩ := h
  exact ⟨ls, a, by rw [upd_ne hr]; exact b, d, fun i l q => by rw [upd_ne (fun z => (d l (List.mem_of_getElem? q)).2 (by rw [z]; exact hc))]; exact e i l q⟩
theorem FRowsX.add {H0 H : Hp} {r g : Addr} {rs : List (List Nat)} {ex : List Addr} {x : List Nat} (h : FRowsX H0 H r rs ex) (hg : H g = some (.lst (nats x))) (h0 : H0 g = none) (hx : g ∉ ex) (hr : r ∈ ex) : ∃ ls : List Addr, H r = some (.lst (ls.map V.ref)) ∧ ls.length = rs.length ∧ FRowsX H0 (L2.upd H r (.lst (ls.map V.ref ++ [.ref g]))) r (rs ++ [x]) ex := by
  obtain ⟨ls, a, b, d, e⟩ := h
  refine ⟨ls, b, a, ls ++ [g], by rw [List.length_append, List.length_append, a]; rfl, by rw [upd_same, List.map_append]; rfl, fun l hl => ?_, fun i l q => ?_⟩
  · rcases List.mem_append.mp hl with hl | hl
    · exact d l hl
    · have : l = g := by simpa using hl
      rw [this]; exact ⟨h0, hx⟩
  · by_cases hi : i < ls.length
    · rw [List.getElem?_append_left hi] at q
      rw [upd_ne (fun z => (d l (List.mem_of_getElem? q)).2 (by rw [z]; exact hr)), e i l q]
      rw [List.getD_eq_getElem?_getD, List.getD_eq_getElem?_getD, List.getElem?_append_left (by omega)]
    · have hl : i = ls.length := by
        have := (List.getElem?_eq_some_iff.mp q).1
        rw [List.length_append] at this
        have : i < ls.length + 1 := this
        omega
      subst hl
      rw [List.getElem?_append_right (Nat.le_refl _), Nat.sub_self] at q
      cases q
      rw [upd_ne (fun z => hx (by rw [z]; exact hr)), hg]
      rw [List.getD_eq_getElem?_getD, a, List.getElem?_append_right (Nat.le_refl _), Nat.sub_self]; rfl
section
variable (K : PySem.W.Frag) (C CN CP : Addr)
def spChkX : Sp := fun vs H Q E => ∃ (x : Addr) (es ws : List Nat) (t : Int), vs = [.ref x, .int t] ∧ IsTree C H x es ws ∧ Good es ws ∧ (¬ (0 ≤ t ∧ t ≤ (es.length : Nat)) → E (.ref CN) none H) ∧ (0 ≤ t → t ≤ (es.length : Nat) → Q .non H)
def spStep : Sp := fun vs H Q E => ∃ (x b z : Addr) (es ws bs ss : List Nat) (t : Int), vs = [.ref x, .int t, .ref b, .ref z] ∧ IsTree C H x es ws ∧ Good es ws ∧ SqL K H b (nats bs) ∧ SqL K H z (nats ss) ∧
  (¬ (0 ≤ t ∧ t ≤ (es.length : Nat)) → E (.ref CN) none H) ∧ (0 ≤ t → t ≤ (es.length : Nat) → (t.toNat ∈ bs ∨ t.toNat ∈ ss) → E (.ref CP) none H) ∧ (0 ≤ t → t ≤ (es.length : Nat) → t.toNat ∉ bs → t.toNat ∉ ss → Q .non H)
def spCatch : Sp := fun vs H Q _ => ∃ (a b z : Addr) (es bs ss : List Nat), vs = [.ref a, .ref b, .ref z] ∧ H a = some (.lst (nats es)) ∧ H b = some (.lst (nats bs)) ∧ H z = some (.lst (nats ss)) ∧ es.length ≤ 14 ∧ bs.length ≤ 800 ∧ ss.length ≤ 100 ∧
  ∀ (r : Addr) (H' : Hp), H r = none → Same H H' → H' r = some (.lst (nats (spread es bs ss))) → Q (.ref r) H'
end
section
variable {P : Program} {w : World} {K : PySem.W.Frag} {mg : Str → Option Value} {base : Heap} {f C CN CP : Addr} {fd : FuncData}
theorem ok_chkX (F : Fun K "check_thing" "Tree.check_thing" s_chk f fd) (B : ExcR K mg "NoThing" CN) (Mthings : MethOk P w K mg base (CX1 P w) C "things" 1 ["self"] (spThings C)) : FnOk P w K mg base (CX1 P w) 2 f fd ["self", "thing"] (spChkX C CN) := by
  refine F.okX sc_chk (fun vs H Q E h => ?_) (fun cdv A outer s H vs Q E hr h => ?_)
  · obtain ⟨x, es, ws, t, rfl, _⟩ := h
    rfl
  obtain ⟨x, es, ws, t, rfl, I, G, z, q⟩ := h
  obtain ⟨dx, p, r, hx, hp, hr0⟩ := id I
  have hm_NoThing := B.nm
  have hq_NoThing := B.rs
  have hlen := G.len
  refine ⟨_, (pss_one (ps_if (PW.pt (pw_or (pt_cmpR op_lt (pv 1) pe_int (nomark _)) (pw_or1 (pt_cmpR op_ge (pv 1) (pe_me0 (pv 0) Mthings hr pass1) (nomark _))))) (pss_one (ps_raise hm_NoThing hq_NoThing hr.hd (pa_cons pe_str pa_nil))) pss_nil)), ?_⟩
  have one : (1 : Nat) ≤ sizeLine := by decide
  refine ⟨_, rfl, _, _, rfl, rfl, _, rfl, ite2 (fun c => iteT ?_) (fun c1 => ?_)⟩
  · have c' : t < 0 := of_decide_eq_true c
    exact ⟨one, z (by omega)⟩
  have c1' : ¬ t < 0 := of_decide_eq_false (Bool.eq_false_iff.mpr c1)
  refine ⟨_, rfl, _, rfl, x, dx, _, rfl, hx, row_no _ _ (by decide +kernel) (by decide +kernel), x, es, ws, rfl, I, _, _, rfl, rfl, _, rfl, ite2 (fun c => ?_) (fun c2 => ?_)⟩
  · have c' : ((ws.length : Nat) : Int) ≤ t := of_decide_eq_true c
    exact ⟨one, z (by omega)⟩
  have c2' : ¬ ((ws.length : Nat) : Int) ≤ t := of_decide_eq_false (Bool.eq_false_iff.mpr c2)
  exact q (by omega) (by omega)
theorem sc_step : FnScope ["tree", "thing", "burning", "shut"] ["tree", "thing", "burning", "shut"] (defScope s_step) := ⟨rfl, rfl, rfl, by decide +kernel, rfl, by decide +kernel, by decide +kernel⟩
theorem ok_step (F : Fun K "check_step" "check_step" s_step f fd) (B : ExcR K mg "BadPlan" CP) (Mcheck_thing : MethOk P w K mg base (CX1 P w) C "check_thing" 2 ["self", "thing"] (spChkX C CN)) : FnOk P w K mg base (CX1 P w) 3 f fd ["tree", "thing", "burning", "shut"] (spStep K C CN CP) := by
  refine F.okX sc_step (fun vs H Q E h => ?_) (fun cdv A outer s H vs Q E hr h => ?_)
  · obtain ⟨x, b, z, es, ws, bs, ss, t, rfl, _⟩ := h
    rfl
  obtain ⟨x, b, z, es, ws, bs, ss, t, rfl, I, G, hb, hz, e1, e2, q⟩ := h
  obtain ⟨dx, p, r, hx, hp, hr0⟩ := id I
  have hm_BadPlan := B.nm
  have hq_BadPlan := B.rs
  have hnd := sc_step.nd
  refine ⟨_, (pss_cons (ps_expr (pe_me (pv 0) Mcheck_thing hr passX (pa_cons (pv 1) pa_nil)))
    (pss_cons (ps_if (pt_cmpR op_in_seq (pv 1) (pv 2) (by rfl)) (pss_one (ps_raise hm_BadPlan hq_BadPlan hr.hd (pa_cons pe_str pa_nil))) pss_nil)
    (pss_one (ps_if (pt_cmpR op_in_seq (pv 1) (pv 3) (by rfl)) (pss_one (ps_raise hm_BadPlan hq_BadPlan hr.hd (pa_cons pe_str pa_nil))) pss_nil)))), ?_⟩
  have one : (1 : Nat) ≤ sizeLine := by decide
  refine ⟨_, rfl, x, dx, _, rfl, hx, row_no _ _ (by decide +kernel) (by decide +kernel), _, rfl, x, es, ws, t, rfl, I, G, e1, fun t0 t1 => ?_⟩
  obtain ⟨n, rfl⟩ := Int.eq_ofNat_of_zero_le t0
  refine ⟨_, rfl, _, rfl, b, _, rfl, .inl hb, rfl, nats_flat _, _, rfl, ite2 (fun c => ?_) (fun c => ?_)⟩
  · have c' : inV (.int (n : Nat)) (nats bs) = true := c
    rw [nats_in] at c'
    exact ⟨one, e2 t0 t1 (.inl (by rw [Int.toNat_natCast]; exact of_decide_eq_true c'))⟩
  have c' : ¬ inV (.int (n : Nat)) (nats bs) = true := c
  rw [nats_in] at c'
  have m1 : ¬ n ∈ bs := fun z => c' (decide_eq_true z)
  refine ⟨_, rfl, _, rfl, z, _, rfl, .inl hz, rfl, nats_flat _, _, rfl, ite2 (fun c => ?_) (fun c => ?_)⟩
  · have c' : inV (.int (n : Nat)) (nats ss) = true := c
    rw [nats_in] at c'
    exact ⟨one, e2 t0 t1 (.inr (by rw [Int.toNat_natCast]; exact of_decide_eq_true c'))⟩
  have c' : ¬ inV (.int (n : Nat)) (nats ss) = true := c
  rw [nats_in] at c'
  have m2 : ¬ n ∈ ss := fun z => c' (decide_eq_true z)
  exact q t0 t1 (by rw [Int.toNat_natCast]; exact m1) (by rw [Int.toNat_natCast]; exact m2)
theorem sc_catch : FnScope ["elders", "burning", "shut", "settled"] ["elders", "burning", "shut"] (defScope s_catch) := ⟨rfl, rfl, rfl, by decide +kernel, rfl, by decide +kernel, by decide +kernel⟩
theorem ok_catch (F : Fun K "catching" "catching" s_catch f fd) (N : Nm mg) : FnOk P w K mg base CX0 1 f fd ["elders", "burning", "shut"] spCatch := by
  refine F.ok sc_catch (fun vs H Q E h => ?_) (fun cdv A outer s H vs Q E hr h => ?_)
  · obtain ⟨a, b, z, es, bs, ss, rfl, _⟩ := h
    rfl
  obtain ⟨a, b, z, es, bs, ss, rfl, ha, hb, hz, le, lb, lz, q⟩ := h
  have hnd := sc_catch.nd
  have mn_enumerate := N.enumerate
  refine ⟨_, (pss_cons (ps_set (i := 3) hnd rfl (by first | exact Or.inl rfl | exact Or.inr rfl) (pe_op op_cat (pv 1) (pv 2)))
    (pss_one (ps_ret (pe_lcTB ["thing", "elder"] rfl hnd (pi_enumS mn_enumerate (pa_cons (pv 0) pa_nil)) (fun cl C s0 H0 fp pn => (pg_pair (by show List.Nodup (["thing", "elder", "elders", "burning", "shut", "settled"] : List Str); decide +kernel) rfl rfl rfl)) (fun cl C s0 H0 fp pn => (pts_one (PW.pt (pw_and (pt_cmpR (op_inK (K := K)) (pv 1) (pv 3) (by rfl)) (pw_and1 (pt_cmpR (op_notInK (K := K)) (pv 0) (pv 5) (by rfl))))))) (fun cl C s0 H0 fp pn => (pv 0)) (by kernel_rfl))))), ?_⟩
  refine ⟨_, rfl, _, rfl, b, z, _, _, rfl, rfl, hb, hz, small (by rw [nats_length, nats_length]; omega), fun t nt => ?_⟩
  have s1 : Same H (upd H t (.lst (nats bs ++ nats ss))) := same_new nt _
  have ht : upd H t (.lst (nats bs ++ nats ss)) t = some (.lst (nats (bs ++ ss))) := by rw [upd_same, nats_app]
  generalize upd H t (.lst (nats bs ++ nats ss)) = H1 at s1 ht ⊢
  refine ⟨_, rfl, a, _, rfl, s1 _ _ ha, ?_⟩
  refine lc_enum (xs := nats es) (fun i ys H3 => Same H1 H3 ∧ ys = nats (spreadTo es bs ss (1 + i)) ∧ ys.length ≤ i) ⟨Same.refl _, by rw [Nat.add_zero, spreadTo_one]; rfl, Nat.le_refl _⟩ (by rw [nats_length]; omega) (fun i ys H3 ⟨_, _, e⟩ => e) (fun i ys H3 _ ⟨s3, _⟩ => SqL.of (s3 _ _ (s1 _ _ ha))) ?_ ?_
  · rintro i y ys H3 pp hy ⟨s3, rfl, hl⟩ np
    have hi : i < es.length := by
      have := (List.getElem?_eq_some_iff.mp hy).1
      rwa [nats_length] at this
    rw [nats_get hi] at hy
    have hy' := Option.some.inj hy
    subst hy'
    have ee : es.getD i 0 = el es (1 + i) := by unfold el; rw [Nat.add_sub_cancel_left]
    have et : (1 : Int) + (i : Nat) = ((1 + i : Nat) : Int) := by omega
    have h0 : 0 < 1 + i := by omega
    have s4 := s3.trans (same_new np (.tup [.int ((1 : Int) + (i : Nat)), .int (es.getD i 0 : Nat)]))
    refine ⟨pp, _, rfl, SqT.of upd_same, rfl, _, _, rfl, _, _, rfl, rfl, ⟨[_, _], rfl, rfl⟩, ?_⟩
    refine ⟨_, rfl, _, rfl, b, _, rfl, .inl (SqL.of (s4 _ _ (s1 _ _ hb))), rfl, nats_flat _, _, rfl, ite2 (fun c1 => ?_) (fun c1 => iteF ?_)⟩
    · have c1' : inV (.int (es.getD i 0 : Nat)) (nats bs) = true := c1
      rw [nats_in, ee] at c1'
      have m1 := of_decide_eq_true c1'
      refine ⟨_, rfl, _, rfl, t, _, rfl, .inl (SqL.of (s4 _ _ ht)), rfl, nats_flat _, _, rfl, ite2 (fun c2 => ?_) (fun c2 => ?_)⟩
      · have c2' : (!inV (.int ((1 : Int) + (i : Nat))) (nats (bs ++ ss))) = true := c2
        rw [et, nats_in] at c2'
        have m2 : ¬ 1 + i ∈ bs ++ ss := by simpa using c2'
        have m3 : ¬ 1 + i ∈ bs := fun z => m2 (List.mem_append_left _ z)
        have m4 : ¬ 1 + i ∈ ss := fun z => m2 (List.mem_append_right _ z)
        refine ⟨_, rfl, s4, ?_, by rw [List.length_append]; exact Nat.succ_le_succ hl⟩
        rw [← Nat.add_assoc, spreadTo_succ, if_pos (by simp [h0, m1, m3, m4]), nats_app, et]; rfl
      · have c2' : ¬ (!inV (.int ((1 : Int) + (i : Nat))) (nats (bs ++ ss))) = true := c2
        rw [et, nats_in] at c2'
        have m2 : 1 + i ∈ bs ++ ss := Decidable.byContradiction fun z => c2' (by rw [decide_eq_false z]; rfl)
        refine ⟨s4, ?_, Nat.le_succ_of_le hl⟩
        rw [← Nat.add_assoc, spreadTo_succ, if_neg, List.append_nil]
        rcases List.mem_append.mp m2 with z | z <;> simp [z]
    · have c1' : ¬ inV (.int (es.getD i 0 : Nat)) (nats bs) = true := c1
      rw [nats_in, ee] at c1'
      have m1 : ¬ el es (1 + i) ∈ bs := fun z => c1' (decide_eq_true z)
      refine ⟨s4, ?_, Nat.le_succ_of_le hl⟩
      rw [← Nat.add_assoc, spreadTo_succ, if_neg (by simp [m1]), List.append_nil]
  · rintro ys H3 ⟨s3, rfl, _⟩ g ng
    refine q g _ ((s1.trans s3).free ng) ((s1.trans s3).trans (same_new ng _)) ?_
    rw [upd_same, nats_length, Nat.add_comm, spreadTo_all]
theorem sc_burnt : FnScope ["tree", "plan", "elders", "rows", "burning", "shut", "thing", "caught"] ["tree", "plan"] (defScope s_burnt) := ⟨rfl, rfl, rfl, by decide +kernel, rfl, by decide +kernel, by decide +kernel⟩
/-- the walked list: the plan, and None behind it -/
def padded (plan : List (Option Int)) (n : Nat) : List V := optVs plan ++ List.replicate n .non
theorem padded_get {plan : List (Option Int)} {n i : Nat} {y : V} (h : (padded plan n)[i]? = some y) : (∃ x, plan[i]? = some x ∧ y = optV x) ∨ (plan[i]? = none ∧ y = .non) := by
  unfold padded at h
  by_cases c : i < plan.length
  · rw [List.getElem?_append_left (by rw [List.length_map]; exact c), List.getElem?_map, List.getElem?_eq_getElem c] at h
    exact .inl ⟨_, List.getElem?_eq_getElem c, (Option.some.inj h).symm⟩
  · rw [List.getElem?_append_right (by rw [List.length_map]; omega), List.getElem?_replicate] at h
    split at h
    · exact .inr ⟨List.getElem?_eq_none (by omega), (Option.some.inj h).symm⟩
    · cases h
theorem flat_rep (n : Nat) : (List.replicate n [V.non]).flatten = List.replicate n .non := by
  induction n with
  | zero => rfl
  | succ n ih => rw [List.replicate_succ, List.flatten_cons, ih]; rfl
theorem ok_burnt (F : Fun K "burnt" "burnt" s_burnt f fd) (N : Nm mg) (Melders : MethOk P w K mg base (CX1 P w) C "elders" 1 ["self"] (spGetE C)) (Mthings : MethOk P w K mg base (CX1 P w) C "things" 1 ["self"] (spThings C))
    (Dcheck_step : DefOk P w K mg base (CX1 P w) "check_step" 3 ["tree", "thing", "burning", "shut"] (spStep K C CN CP)) (Dcatching : DefOk P w K mg base (CX1 P w) "catching" 1 ["elders", "burning", "shut"] spCatch) : FnOk P w K mg base (CX1 P w) 4 f fd ["tree", "plan"] (spBurntX C CN CP) := by
  refine F.okX sc_burnt (fun vs H Q E h => ?_) (fun cdv A outer s H vs Q E hr h => ?_)
  · obtain ⟨x, p, es, ws, plan, rfl, _⟩ := h
    rfl
  obtain ⟨x, p, es, ws, plan, rfl, I, hp, G, h20, qf, qr⟩ := h
  obtain ⟨dx, pe, pw, hx, hpe, hpw⟩ := id I
  have hnd := sc_burnt.nd
  have hpo := @PassesOwn.leaving
  have mn_len := N.len
  have hE : Eld es := G.lt
  have hlen := G.len
  have hmost := G.most
  refine ⟨_, (pss_cons (ps_set (i := 2) hnd rfl (by first | exact Or.inl rfl | exact Or.inr rfl) (pe_me0 (pv 0) Melders hr passX))
    (pss_cons (ps_set (i := 3) hnd rfl (by first | exact Or.inl rfl | exact Or.inr rfl) (pe_lst (pa_cons (pe_lst (pa_cons pe_int pa_nil)) pa_nil)))
    (pss_cons (ps_set (i := 4) hnd rfl (by first | exact Or.inl rfl | exact Or.inr rfl) (pe_lst (pa_cons pe_int pa_nil)))
    (pss_cons (ps_set (i := 5) hnd rfl (by first | exact Or.inl rfl | exact Or.inr rfl) (pe_lst pa_nil))
    (pss_cons (ps_for hpo rfl (pi_list (pe_op op_cat (pv 1) (pe_op op_rep (pe_lst (pa_cons pe_non pa_nil)) (pe_me0 (pv 0) Mthings hr passX)))) (pg_name (i := 6) hnd rfl (by first | exact Or.inl rfl | exact Or.inr rfl)) (pss_cons (ps_if (pt_cmpR op_notN (pv 6) pe_non (nomark _)) (pss_cons (ps_expr (pe_def Dcheck_step hr passX (pa_cons (pv 0) (pa_cons (pv 6) (pa_cons (pv 4) (pa_cons (pv 5) pa_nil))))))
        (pss_one (ps_expr (pe_bm PySem.F.plainAttrs_list PySem.F.slot_list_append PySem.F.type_list_append mt_append (pv 5) (pa_cons (pv 6) pa_nil))))) pss_nil)
      (pss_cons (ps_set (i := 7) hnd rfl (by first | exact Or.inl rfl | exact Or.inr rfl) (pe_def Dcatching hr passX (pa_cons (pv 2) (pa_cons (pv 4) (pa_cons (pv 5) pa_nil)))))
      (pss_cons (ps_if (pt_cmpR op_gt (pe_callB call_len_seq (by rfl) mn_len PySem.boot_len (pa_cons (pv 7) pa_nil)) pe_int (nomark _)) (pss_one (ps_expr (pe_bm PySem.F.plainAttrs_list PySem.F.slot_list_append PySem.F.type_list_append mt_append (pv 3) (pa_cons (pv 7) pa_nil)))) pss_nil)
      (pss_one (ps_set (i := 4) hnd rfl (by first | exact Or.inl rfl | exact Or.inr rfl) (pe_op op_cat (pv 4) (pv 7))))))))
    (pss_one (ps_ret (pv 3)))))))), ?_⟩
  have one : (1 : Nat) ≤ sizeLine := by decide
  have zer : (0 : Nat) ≤ sizeLine := by decide
  refine ⟨_, rfl, x, dx, _, rfl, hx, row_no _ _ (by decide +kernel) (by decide +kernel), x, es, ws, rfl, I, fun ea nea => ?_⟩
  refine ⟨one, fun g0 ng0 => ⟨one, fun r nr => ⟨one, fun b0 nb0 => ⟨zer, fun sh nsh => ?_⟩⟩⟩⟩
  have s1 : Same H (upd H ea (.lst (nats es))) := same_new nea _
  have k1 := upd_same (H := H) (a := ea) (o := .lst (nats es))
  generalize upd H ea (.lst (nats es)) = H1 at ng0 nr nb0 nsh s1 k1 ⊢
  have s2 : Same H1 (upd H1 g0 (.lst [.int 0])) := same_new ng0 _
  have k2 := upd_same (H := H1) (a := g0) (o := .lst [.int 0])
  have f2 : H g0 = none := s1.free ng0
  generalize upd H1 g0 (.lst [.int 0]) = H2 at nr nb0 nsh s2 k2 ⊢
  have s3 : Same H2 (upd H2 r (.lst [.ref g0])) := same_new nr _
  have k3 := upd_same (H := H2) (a := r) (o := .lst [.ref g0])
  have f3 : H r = none := (s1.trans s2).free nr
  have n1 : ea ≠ r := ne_of_none (s2 _ _ k1) nr
  have n2 : g0 ≠ r := ne_of_none k2 nr
  generalize upd H2 r (.lst [.ref g0]) = H3 at nb0 nsh s3 k3 ⊢
  have s4 : Same H3 (upd H3 b0 (.lst [.int 0])) := same_new nb0 _
  have k4 := upd_same (H := H3) (a := b0) (o := .lst [.int 0])
  have n3 : b0 ≠ r := (ne_of_none k3 nb0).symm
  generalize upd H3 b0 (.lst [.int 0]) = H4 at nsh s4 k4 ⊢
  have s5 : Same H4 (upd H4 sh (.lst [])) := same_new nsh _
  have k5 := upd_same (H := H4) (a := sh) (o := .lst [])
  have s14 : Same H H4 := s1.trans (s2.trans (s3.trans s4))
  have f5 : H sh = none := s14.free nsh
  have n4 : ea ≠ sh := ne_of_none (s4 _ _ (s3 _ _ (s2 _ _ k1))) nsh
  have n5 : g0 ≠ sh := ne_of_none (s4 _ _ (s3 _ _ k2)) nsh
  have n6 : r ≠ sh := ne_of_none (s4 _ _ k3) nsh
  have n7 : b0 ≠ sh := ne_of_none k4 nsh
  generalize upd H4 sh (.lst []) = H5 at s5 k5 ⊢
  have s15 : Same H H5 := s14.trans s5
  refine ⟨_, rfl, one, fun l1 nl1 => ?_⟩
  have s6 : Same H5 (upd H5 l1 (.lst [.non])) := same_new nl1 _
  have k6 := upd_same (H := H5) (a := l1) (o := .lst [.non])
  generalize upd H5 l1 (.lst [.non]) = H6 at s6 k6 ⊢
  have s16 := s15.trans s6
  refine ⟨_, rfl, x, dx, _, rfl, s16 _ _ hx, row_no _ _ (by decide +kernel) (by decide +kernel), x, es, ws, rfl, I.same s16, ?_⟩
  refine ⟨l1, _, _, rfl, rfl, k6, by omega, by omega, small (by rw [Int.toNat_natCast]; show 1 * _ ≤ _; omega), fun l2 nl2 => ?_⟩
  have s7 : Same H6 (upd H6 l2 (.lst (List.replicate ((ws.length : Nat) : Int).toNat [V.non]).flatten)) := same_new nl2 _
  have k7 : upd H6 l2 (.lst (List.replicate ((ws.length : Nat) : Int).toNat [V.non]).flatten) l2 = some (.lst (List.replicate ws.length .non)) := by rw [upd_same, Int.toNat_natCast, flat_rep]
  generalize upd H6 l2 (.lst (List.replicate ((ws.length : Nat) : Int).toNat [V.non]).flatten) = H7 at s7 k7 ⊢
  have s17 := s16.trans s7
  have lp : (optVs plan).length = plan.length := List.length_map _
  refine ⟨p, l2, _, _, rfl, rfl, s17 _ _ hp, k7, small (by rw [lp, List.length_replicate]; omega), fun L nL => ?_⟩
  have s8 : Same H7 (upd H7 L (.lst (optVs plan ++ List.replicate ws.length .non))) := same_new nL _
  have k8 : upd H7 L (.lst (optVs plan ++ List.replicate ws.length .non)) L = some (.lst (padded plan ws.length)) := upd_same
  have n8 : L ≠ r := (ne_of_none (s7 _ _ (s6 _ _ (s5 _ _ (s4 _ _ k3)))) nL).symm
  have n9 : L ≠ sh := (ne_of_none (s7 _ _ (s6 _ _ k5)) nL).symm
  generalize upd H7 L (.lst (optVs plan ++ List.replicate ws.length .non)) = H8 at s8 k8 ⊢
  have s18 := s17.trans s8
  have s58 : Same H5 H8 := s6.trans (s7.trans s8)
  have s28 : Same H2 H8 := s3.trans (s4.trans (s5.trans s58))
  have ll : (padded plan ws.length).length = plan.length + ws.length := by unfold padded; rw [List.length_append, lp, List.length_replicate]
  refine ⟨L, rfl, ⟨_, SqL.of k8⟩, for_list (xs := padded plan ws.length) (fun i σ H2 => ∃ (bl : Addr) (tv cv : Option V) (m : Nat), σ = [some (.ref x), some (.ref p), some (.ref ea), some (.ref r), some (.ref bl), some (.ref sh), tv, cv] ∧ Same H H2 ∧ H2 ea = some (.lst (nats es)) ∧ H2 L = some (.lst (padded plan ws.length)) ∧
    H2 bl = some (.lst (nats (burn es (tn plan) i))) ∧ H2 sh = some (.lst (nats (shutAt (tn plan) i))) ∧ bl ≠ r ∧ bl ≠ sh ∧ FRowsX H H2 r ((List.range m).map (row es (tn plan))) [r, sh] ∧ 0 < m ∧ m ≤ i + 1 ∧ (∀ j, j < m → row es (tn plan) j ≠ []) ∧ (∀ j, m ≤ j → j ≤ i → row es (tn plan) j = []) ∧ ∀ j, j < i → flt es plan j = 0) ?_ ?_ ?_ ?_⟩
  · refine ⟨b0, none, none, 1, rfl, s18, s28 _ _ (s2 _ _ k1), k8, s58 _ _ (s5 _ _ k4), s58 _ _ k5, n3, n7, ⟨[g0], rfl, s58 _ _ (s5 _ _ (s4 _ _ k3)), fun l hl => ?_, fun i l e => ?_⟩, by decide, by decide, fun j hj => ?_, fun j h1 h2 => absurd h1 (by omega), fun j h => absurd h (Nat.not_lt_zero j)⟩
    · have : l = g0 := by simpa using hl
      subst this
      exact ⟨f2, by simp [n2, n5]⟩
    · cases i with
      | zero => cases e; exact s28 _ _ k2
      | succ j => simp at e
    · have : j = 0 := by omega
      subst this
      intro z; cases z
  · rintro i σ H2 _ ⟨bl, tv, cv, m, rfl, _, _, kL, _⟩
    exact SqL.of kL
  · rintro i y σ H9 hy ⟨bl, tv, cv, m, rfl, s9, kea, kL, kbl, ksh, nbr, nbs, FR, m0, m1, m2, m3, ok⟩
    have hi : i < plan.length + ws.length := by
      have := (List.getElem?_eq_some_iff.mp hy).1
      rwa [ll] at this
    have lb := burn_len es (tn plan) hE i
    have lb' : i * (es.length + 1) ≤ 34 * 14 := Nat.mul_le_mul (by omega) (by omega)
    have ls := shut_length (tn plan) i
    have ls' := shut_length (tn plan) (i + 1)
    refine' (fun (key : ∀ Ha, Same H Ha → Ha ea = some (.lst (nats es)) → Ha L = some (.lst (padded plan ws.length)) → Ha bl = some (.lst (nats (burn es (tn plan) i))) → Ha sh = some (.lst (nats (shutAt (tn plan) (i + 1)))) → FRowsX H Ha r ((List.range m).map (row es (tn plan))) [r, sh] → flt es plan i = 0 →
      (_ : St → Hp → Prop) [some (.ref x), some (.ref p), some (.ref ea), some (.ref r), some (.ref bl), some (.ref sh), some y, cv] Ha) => ?main) ?rest
    case main =>
      refine ⟨_, rfl, rfl, _, rfl, ?_⟩
      rcases padded_get hy with ⟨v, hv, rfl⟩ | ⟨hv, rfl⟩
      · cases v with
        | none =>
          refine iteF ?_
          exact key H9 s9 kea kL kbl (by rw [shut_succ_none (.inr hv)]; exact ksh) FR (by unfold flt; rw [hv])
        | some v =>
          have hip : i < plan.length := (List.getElem?_eq_some_iff.mp hv).1
          refine iteT ?_
          refine ⟨_, rfl, _, rfl, _, rfl, _, rfl, x, bl, sh, es, ws, _, _, v, rfl, I.same s9, G, SqL.of kbl, SqL.of ksh, fun z => ?_, fun z0 z1 z => ?_, fun z0 z1 z2 z3 => ?_⟩
          · refine qf i 1 hip ok ?_ (by decide) H9 s9
            unfold flt
            rw [hv]
            show (if 0 ≤ v ∧ v ≤ (es.length : Nat) then _ else 1) = 1
            rw [if_neg z]
          · refine qf i 2 hip ok ?_ (by decide) H9 s9
            unfold flt
            rw [hv]
            show (if 0 ≤ v ∧ v ≤ (es.length : Nat) then (if v.toNat ∈ burn es (tn plan) i ∨ v.toNat ∈ shutAt (tn plan) i then 2 else 0) else 1) = 2
            rw [if_pos ⟨z0, z1⟩, if_pos z]
          · have hf : flt es plan i = 0 := by
              unfold flt
              rw [hv]
              show (if 0 ≤ v ∧ v ≤ (es.length : Nat) then (if v.toNat ∈ burn es (tn plan) i ∨ v.toNat ∈ shutAt (tn plan) i then 2 else 0) else 1) = 0
              rw [if_pos ⟨z0, z1⟩, if_neg (fun z => z.elim z2 z3)]
            refine ⟨_, rfl, .inl ⟨rfl, _, SqL.of ksh⟩, _, rfl, sh, _, _, rfl, rfl, ksh, small1000 (by rw [nats_length]; omega), ?_⟩
            refine key _ (same_upd s9 f5) (by rw [upd_ne n4]; exact kea) (by rw [upd_ne n9]; exact kL) (by rw [upd_ne nbs]; exact kbl) ?_ (FR.upd (by simp) n6) hf
            rw [upd_same, shut_succ_some hv, nats_app]
            show some (HO.lst (nats (shutAt (tn plan) i) ++ [V.int v])) = some (HO.lst (nats (shutAt (tn plan) i) ++ [V.int ((v.toNat : Nat) : Int)]))
            rw [Int.toNat_of_nonneg z0]
      · refine iteF ?_
        exact key H9 s9 kea kL kbl (by rw [shut_succ_none (.inl hv)]; exact ksh) FR (by unfold flt; rw [hv])
    case rest =>
      intro Ha sa kea kL kbl ksh FR hf
      have ok' : ∀ j, j < i + 1 → flt es plan j = 0 := fun j hj => by
        by_cases c : j = i
        · subst c; exact hf
        · exact ok j (by omega)
      refine ⟨_, rfl, _, rfl, _, rfl, ea, bl, sh, es, _, _, rfl, kea, kbl, ksh, by omega, by omega, by omega, fun g Hb ng sb kg => ?_⟩
      have kg' : Hb g = some (.lst (nats (row es (tn plan) (i + 1)))) := kg
      have lrow : (row es (tn plan) (i + 1)).length ≤ es.length + 1 := spreadTo_length es _ _ (es.length + 1)
      have sab := sa.trans sb
      have ngr : g ≠ r := fun z => by
        obtain ⟨_, _, kr, _⟩ := FR
        rw [z, kr] at ng; cases ng
      have ngs : g ≠ sh := fun z => by rw [z, ksh] at ng; cases ng
      refine' (fun (fin : ∀ Hc m', Same H Hc → Hc ea = some (.lst (nats es)) → Hc L = some (.lst (padded plan ws.length)) → Hc bl = some (.lst (nats (burn es (tn plan) i))) → Hc g = some (.lst (nats (row es (tn plan) (i + 1)))) → Hc sh = some (.lst (nats (shutAt (tn plan) (i + 1)))) → FRowsX H Hc r ((List.range m').map (row es (tn plan))) [r, sh] →
        0 < m' → m' ≤ i + 1 + 1 → (∀ j, j < m' → row es (tn plan) j ≠ []) → (∀ j, m' ≤ j → j ≤ i + 1 → row es (tn plan) j = []) →
        (_ : St → Hp → Prop) [some (.ref x), some (.ref p), some (.ref ea), some (.ref r), some (.ref bl), some (.ref sh), some y, some (.ref g)] Hc) => ?main2) ?rest2
      case main2 =>
        refine ⟨_, rfl, g, _, rfl, .inl (SqL.of kg'), _, _, rfl, rfl, _, rfl, ite2 ?a2 ?b2⟩
        case b2 =>
          intro c
          have c' : ¬ (0 : Int) < (((nats (row es (tn plan) (i + 1))).length : Nat) : Int) := of_decide_eq_false (Bool.eq_false_iff.mpr c)
          rw [nats_length] at c'
          have hnil : row es (tn plan) (i + 1) = [] := List.eq_nil_of_length_eq_zero (by omega)
          refine fin Hb m sab (sb _ _ kea) (sb _ _ kL) (sb _ _ kbl) kg' (sb _ _ ksh) (FR.same sb) m0 (by omega) m2 (fun j h1 h2 => ?_)
          by_cases c : j = i + 1
          · subst c; exact hnil
          · exact m3 j h1 (by omega)
        case a2 =>
          intro c
          have c' : (0 : Int) < (((nats (row es (tn plan) (i + 1))).length : Nat) : Int) := of_decide_eq_true c
          rw [nats_length] at c'
          have hne : row es (tn plan) (i + 1) ≠ [] := fun z => by rw [z] at c'; exact absurd c' (by decide)
          have hm := rows_turn hE m1 m3 hne
          subst hm
          obtain ⟨lsr, e1, e2, FR2⟩ := (FR.same sb).add kg' (sa.free ng) (by simp [ngr, ngs]) (by simp)
          refine ⟨_, rfl, .inl ⟨rfl, _, SqL.of e1⟩, _, rfl, r, _, _, rfl, rfl, e1, small1000 (by rw [List.length_map, e2, List.length_map, List.length_range]; omega), ?_⟩
          refine fin _ (i + 1 + 1) (same_upd sab f3) (by rw [upd_ne n1]; exact sb _ _ kea) (by rw [upd_ne n8]; exact sb _ _ kL) (by rw [upd_ne nbr]; exact sb _ _ kbl) (by rw [upd_ne ngr]; exact kg') (by rw [upd_ne n6.symm]; exact sb _ _ ksh) ?_ (by omega) (Nat.le_refl _) (fun j hj => ?_) (fun j h1 h2 => absurd h1 (by omega))
          · rw [List.range_succ, List.map_append]; exact FR2
          · by_cases c : j = i + 1
            · subst c; exact hne
            · exact m2 j (by omega)
      case rest2 =>
        intro Hc m' sc kea kL kbl kg ksh FR m0 m1 m2 m3
        refine ⟨_, rfl, _, rfl, bl, g, _, _, rfl, rfl, kbl, kg, small (by rw [nats_length, nats_length]; omega), fun nb nnb => ?_⟩
        have sd := same_new nnb (.lst (nats (burn es (tn plan) i) ++ nats (row es (tn plan) (i + 1))))
        refine ⟨nb, _, _, m', rfl, sc.trans sd, sd _ _ kea, sd _ _ kL, ?_, sd _ _ ksh, ?_, ?_, FR.same sd, m0, m1, m2, m3, ok'⟩
        · rw [upd_same, burn_succ, nats_app]
        · intro z
          obtain ⟨_, _, kr, _⟩ := FR
          rw [z, kr] at nnb; cases nnb
        · intro z
          rw [z, ksh] at nnb; cases nnb
  · rintro σ H9 ⟨bl, tv, cv, m, rfl, s9, kea, kL, kbl, ksh, nbr, nbs, FR, m0, m1, m2, m3, ok⟩
    rw [ll] at m1 m3 ok
    refine ⟨_, rfl, qr (fun j hj => ok j (by omega)) r _ H9 s9 f3 ?_ (isRows_of hE m0 m2 m3 (by omega))⟩
    obtain ⟨ls, a1, a2, a3, a4⟩ := FR
    exact ⟨ls, a1, a2, fun l hl => ⟨(a3 l hl).1, fun z => (a3 l hl).2 (by rw [z]; simp)⟩, a4⟩
theorem sc_saved : FnScope ["tree", "plan", "worths", "left", "row"] ["tree", "plan"] (defScope s_saved) := ⟨rfl, rfl, rfl, by decide +kernel, rfl, by decide +kernel, by decide +kernel⟩
theorem ok_saved (F : Fun K "saved" "saved" s_saved f fd) (N : Nm mg) (Mworths : MethOk P w K mg base (CX1 P w) C "worths" 1 ["self"] (spGetW C)) (Dburnt : DefOk P w K mg base (CX1 P w) "burnt" 4 ["tree", "plan"] (spBurntX C CN CP)) : FnOk P w K mg base (CX1 P w) 5 f fd ["tree", "plan"] (spSavedX C CN CP) := by
  refine F.okX sc_saved (fun vs H Q E h => ?_) (fun cdv A outer s H vs Q E hr h => ?_)
  · obtain ⟨x, p, es, ws, plan, rfl, _⟩ := h
    rfl
  obtain ⟨x, p, es, ws, plan, rfl, I, hp, G, h20, qf, qr⟩ := h
  obtain ⟨dx, pe, pw, hx, hpe, hpw⟩ := id I
  have hnd := sc_saved.nd
  have hpo := @PassesOwn.leaving
  have mn_sum := N.sum
  have hE : Eld es := G.lt
  have hlen := G.len
  have hmost := G.most
  refine ⟨_, (pss_cons (ps_set (i := 2) hnd rfl (by first | exact Or.inl rfl | exact Or.inr rfl) (pe_me0 (pv 0) Mworths hr passX))
    (pss_cons (ps_set (i := 3) hnd rfl (by first | exact Or.inl rfl | exact Or.inr rfl) (pe_callB (call_sum rfl) (by rfl) mn_sum bo_sum (pa_cons (pv 2) pa_nil)))
    (pss_cons (ps_for hpo rfl (pi_list (pe_def Dburnt hr passX (pa_cons (pv 0) (pa_cons (pv 1) pa_nil)))) (pg_name (i := 4) hnd rfl (by first | exact Or.inl rfl | exact Or.inr rfl)) (pss_one (ps_set (i := 3) hnd rfl (by first | exact Or.inl rfl | exact Or.inr rfl) (pe_op op_sub (pv 3) (pe_callB (call_sum rfl) (by rfl) mn_sum bo_sum (pa_cons (pe_lcB rfl hnd (pi_list (pv 4)) (fun cl C s0 H0 fp pn => pts_nil) (fun cl C s0 H0 fp pn => (pe_ix (ix_listK (K := K)) (pv 3) (pv 0) (fun _ _ => rfl))) (by kernel_rfl)) pa_nil))))))
    (pss_one (ps_ret (pv 3)))))), ?_⟩
  refine ⟨_, rfl, x, dx, _, rfl, hx, row_no _ _ (by decide +kernel) (by decide +kernel), x, es, ws, rfl, I, fun wa nwa => ?_⟩
  have s1 : Same H (upd H wa (.lst (nats ws))) := same_new nwa _
  have k1 := upd_same (H := H) (a := wa) (o := .lst (nats ws))
  generalize upd H wa (.lst (nats ws)) = H1 at s1 k1 ⊢
  refine ⟨_, rfl, wa, _, rfl, SqL.of (by rw [k1, nats_ints]), ?_⟩
  rw [sum_nats]
  refine ⟨_, rfl, _, rfl, x, p, es, ws, plan, rfl, I.same s1, s1 _ _ hp, G, h20, fun k c hk h1 h2 h3 H2 s2 => qf k c hk h1 h2 h3 H2 (s1.trans s2), fun ok r rs H2 s2 nr FR IR => ?_⟩
  obtain ⟨ls, a1, a2, a3, a4⟩ := FR
  have i0 := IR.1
  have il := rows_len hE IR
  have s12 := s1.trans s2
  have ll : (ls.map V.ref).length = rs.length := by rw [List.length_map, a1]
  refine ⟨r, rfl, ⟨_, SqL.of a2⟩, for_list (xs := ls.map V.ref) (fun i σ H3 => ∃ rv : Option V, σ = [some (.ref x), some (.ref p), some (.ref wa), some (.int ((ws.sum : Nat) - ((((rs.take i).map fun q => (q.map fun t => ws.getD t 0).sum).sum : Nat) : Int))), rv] ∧ Same H2 H3) ?_ (fun i σ H3 _ ⟨_, _, s3⟩ => SqL.of (s3 _ _ a2)) ?_ ?_⟩
  · refine ⟨none, ?_, Same.refl _⟩
    show [some (V.ref x), some (V.ref p), some (V.ref wa), some (V.int ((ws.sum : Nat) : Int)), none] = [some (V.ref x), some (V.ref p), some (V.ref wa), some (V.int (((ws.sum : Nat) : Int) - ((([] : List Nat).sum : Nat) : Int))), none]
    simp
  · rintro i y σ H3 hy ⟨rv, rfl, s3⟩
    have hi : i < rs.length := by
      have := (List.getElem?_eq_some_iff.mp hy).1
      rwa [ll] at this
    obtain ⟨l, el, rfl⟩ : ∃ l, ls[i]? = some l ∧ y = .ref l := by
      rw [List.getElem?_map] at hy
      cases q : ls[i]? with
      | none => rw [q] at hy; cases hy
      | some l => rw [q] at hy; exact ⟨l, rfl, (Option.some.inj hy).symm⟩
    have kl := s3 _ _ (a4 i l el)
    have er := IR.2.1 i hi
    have lrow : (rs.getD i []).length ≤ 15 := by
      rw [er]
      cases i with
      | zero => show ([0] : List Nat).length ≤ 15; decide
      | succ j => exact Nat.le_trans (spreadTo_length es _ _ (es.length + 1)) (by omega)
    have mrow : ∀ t ∈ rs.getD i [], t ≤ es.length := fun t ht => by
      rw [er] at ht
      exact (burn_dep hE i t (mem_burn_row.mpr ⟨i, Nat.le_refl _, ht⟩)).1
    refine ⟨_, rfl, _, rfl, l, rfl, ⟨_, SqL.of kl⟩, ?_⟩
    refine lc_listY (xs := nats (rs.getD i [])) (fun j ys H4 => H4 = H3 ∧ ys = nats (((rs.getD i []).take j).map fun o => ws.getD o 0)) ⟨rfl, rfl⟩ (by rw [nats_length]; omega)
      (fun j ys H4 ⟨_, e2⟩ => by rw [e2, nats_length, List.length_map, List.length_take]; omega) (fun j ys H4 _ ⟨e1, _⟩ => by rw [e1]; exact SqL.of kl) ?_ ?_
    · rintro j z ys H4 hz ⟨rfl, rfl⟩
      have hj : j < (rs.getD i []).length := by
        have := (List.getElem?_eq_some_iff.mp hz).1
        rwa [nats_length] at this
      rw [nats_get hj] at hz
      have hz' := Option.some.inj hz
      subst hz'
      have hm : (rs.getD i []).getD j 0 ≤ es.length := mrow _ (getD_mem hj)
      refine ⟨_, rfl, _, rfl, wa, _, _, _, rfl, rfl, SqL.of (s3 _ _ (s2 _ _ k1)), nats_at (by omega), rfl, ?_⟩
      rw [take_map_succ _ hj, nats_app]; rfl
    · rintro ys H4 ⟨rfl, rfl⟩ g ng
      rw [nats_length, List.take_length]
      refine ⟨g, _, rfl, SqL.of (by rw [upd_same, nats_ints]), ?_⟩
      rw [sum_nats]
      refine ⟨_, _, rfl, rfl, ?_⟩
      refine ⟨some (.ref l), ?_, s3.trans (same_new ng _)⟩
      have e5 : rs.take (i + 1) = rs.take i ++ [rs.getD i []] := by
        rw [List.take_add_one, List.getElem?_eq_getElem hi, List.getD_eq_getElem?_getD, List.getElem?_eq_getElem hi]; rfl
      rw [e5, List.map_append, List.sum_append]
      have e6 : ∀ a b : Int, a = b → [some (V.ref x), some (V.ref p), some (V.ref wa), some (V.int a), some (V.ref l)] = [some (V.ref x), some (V.ref p), some (V.ref wa), some (V.int b), some (V.ref l)] := fun a b e => by rw [e]
      refine e6 _ _ ?_
      simp
      omega
  · rintro σ H3 ⟨rv, rfl, s3⟩
    rw [ll, List.take_length]
    refine ⟨_, rfl, ?_⟩
    have e := saved_rows (k := plan.length + es.length + 1) IR hlen.symm (by omega)
    have : (((ws.sum : Nat) : Int) - ((((rs.map fun q => (q.map fun t => ws.getD t 0).sum).sum : Nat) : Int))) = (savedAt es ws (tn plan) (plan.length + es.length + 1) : Nat) := by omega
    rw [this]
    exact qr ok H3 (s12.trans s3)
end
end FT
set_option Elab.async false
set_option maxHeartbeats 4000000
set_option maxRecDepth 20000
namespace FT
open PySem L2 TM
abbrev s_at : Stmt := (top 12)
abbrev s_choices : Stmt := (top 13)
section
variable (C : Addr)
def spAt : Sp := fun vs H Q _ => ∃ (x : Addr) (es ws : List Nat) (d : Nat), vs = [.ref x, .int d] ∧ IsTree C H x es ws ∧ Good es ws ∧ 0 < d ∧ ∀ (r : Addr), H r = none → Q (.ref r) (upd H r (.lst (nats (free es d []))))
def spChoices : Sp := fun vs H Q _ => ∃ (x p : Addr) (es ws plan : List Nat), vs = [.ref x, .ref p] ∧ IsTree C H x es ws ∧ Good es ws ∧ H p = some (.lst (nats plan)) ∧ plan.length ≤ 14 ∧ (∀ t ∈ plan, t ≤ es.length) ∧
  ∀ (r : Addr) (H' : Hp), H r = none → Same H H' → H' r = some (.lst (nats (free es (plan.length + 1) (goneOf es plan)))) → Q (.ref r) H'
end
section
variable {P : Program} {w : World} {K : PySem.W.Frag} {mg : Str → Option Value} {base : Heap} {f C : Addr} {fd : FuncData}
theorem sc_at : FnScope ["tree", "depth"] ["tree", "depth"] (defScope s_at) := ⟨rfl, rfl, rfl, by decide +kernel, rfl, by decide +kernel, by decide +kernel⟩
theorem ok_at (F : Fun K "things_at" "things_at" s_at f fd) (N : Nm mg) (Mthings : MethOk P w K mg base CX0 C "things" 1 ["self"] (spThings C)) (Mdepth : MethOk P w K mg base CX0 C "depth" 3 ["self", "thing"] (spDepth C)) : FnOk P w K mg base CX0 4 f fd ["tree", "depth"] (spAt C) := by
  refine F.ok sc_at (fun vs H Q E h => ?_) (fun cdv A outer s H vs Q E hr h => ?_)
  · obtain ⟨x, es, ws, d, rfl, _⟩ := h
    rfl
  obtain ⟨x, es, ws, d, rfl, I, G, hd0, q⟩ := h
  obtain ⟨dx, pe, pw, hx, hpe, hpw⟩ := id I
  have hnd := sc_at.nd
  have mn_range := N.range
  have hlen := G.len
  have hmost := G.most
  refine ⟨_, (pss_one (ps_ret (pe_lcB rfl hnd (pi_range1 (by rfl) mn_range (pa_cons (pe_me0 (pv 0) Mthings hr pass0) pa_nil)) (fun cl C s0 H0 fp pn => (pts_one (pt_cmpR op_eq (pe_me (pv 1) Mdepth hr pass0 (pa_cons (pv 0) pa_nil)) (pv 2) (nomark _)))) (fun cl C s0 H0 fp pn => (pv 0)) (by kernel_rfl)))), ?_⟩
  refine ⟨_, rfl, x, dx, _, rfl, hx, row_no _ _ (by decide +kernel) (by decide +kernel), x, es, ws, rfl, I, (ws.length : Nat), rfl, by omega, by omega, ?_⟩
  refine lc_range (n := ((ws.length : Nat) : Int).toNat) (fun i ys H3 => H3 = H ∧ ys = nats (freeTo es d [] i)) ⟨rfl, rfl⟩ (by omega) (fun i ys H3 ⟨_, e⟩ => by rw [e, nats_length]; exact freeTo_length es d [] i) ?_ ?_
  · rintro i ys H3 hi ⟨rfl, rfl⟩
    have ei : (0 : Int) + (i : Nat) = (i : Nat) := by omega
    have hi' : i ≤ es.length := by omega
    refine ⟨_, rfl, x, dx, _, rfl, hx, row_no _ _ (by decide +kernel) (by decide +kernel), _, rfl, x, es, ws, i, (by rw [ei]; rfl), I, G, hi', _, rfl, rfl, _, rfl, ite2 (fun c => ?_) (fun c => ?_)⟩
    · have c' : V.int (dep es i : Nat) = V.int (d : Nat) := of_decide_eq_true c
      have m1 : dep es i = d := by have := V.int.inj c'; omega
      have h0 : 0 < i := by
        cases i with
        | zero => rw [dep_zero] at m1; omega
        | succ j => exact Nat.succ_pos j
      refine ⟨_, rfl, rfl, ?_⟩
      rw [freeTo_succ, if_pos (by simp [h0, m1]), nats_app, ei]; rfl
    · have c' : ¬ V.int (dep es i : Nat) = V.int (d : Nat) := of_decide_eq_false (Bool.eq_false_iff.mpr c)
      have m1 : ¬ dep es i = d := fun z => c' (by rw [z])
      exact ⟨rfl, by rw [freeTo_succ, if_neg (by simp [m1]), List.append_nil]⟩
  · rintro ys H3 ⟨rfl, rfl⟩ r nr
    have en : (((ws.length : Nat) : Int)).toNat = es.length + 1 := by omega
    rw [en]
    exact q r nr
theorem sc_choices : FnScope ["tree", "plan", "safe", "shut"] ["tree", "plan"] (defScope s_choices) := ⟨rfl, rfl, rfl, by decide +kernel, rfl, by decide +kernel, by decide +kernel⟩
theorem ok_choices (F : Fun K "choices" "choices" s_choices f fd) (N : Nm mg) (Mbelow : MethOk P w K mg base CX0 C "below" 3 ["self", "thing"] (spBelow C)) (Dthings_at : DefOk P w K mg base CX0 "things_at" 4 ["tree", "depth"] (spAt C)) : FnOk P w K mg base CX0 5 f fd ["tree", "plan"] (spChoices C) := by
  refine F.ok sc_choices (fun vs H Q E h => ?_) (fun cdv A outer s H vs Q E hr h => ?_)
  · obtain ⟨x, p, es, ws, plan, rfl, _⟩ := h
    rfl
  obtain ⟨x, p, es, ws, plan, rfl, I, G, hp, h14, hpl, q⟩ := h
  obtain ⟨dx, pe, pw, hx, hpe, hpw⟩ := id I
  have hnd := sc_choices.nd
  have hpo := @PassesOwn.never
  have mn_len := N.len
  have hlen := G.len
  have hmost := G.most
  refine ⟨_, (pss_cons (ps_set (i := 2) hnd rfl (by first | exact Or.inl rfl | exact Or.inr rfl) (pe_lst pa_nil))
    (pss_cons (ps_for hpo rfl (pi_list (pv 1)) (pg_name (i := 3) hnd rfl (by first | exact Or.inl rfl | exact Or.inr rfl)) (pss_one (ps_expr (pe_bm PySem.F.plainAttrs_list PySem.F.slot_list_extend PySem.F.type_list_extend mt_extend (pv 2) (pa_cons (pe_me (pv 0) Mbelow hr pass0 (pa_cons (pv 3) pa_nil)) pa_nil)))))
    (pss_one (ps_ret (pe_lcB rfl hnd (pi_list (pe_def Dthings_at hr pass0 (pa_cons (pv 0) (pa_cons (pe_op op_add (pe_callB call_len_seq (by rfl) mn_len PySem.boot_len (pa_cons (pv 1) pa_nil)) pe_int) pa_nil)))) (fun cl C s0 H0 fp pn => (pts_one (pt_cmpR (op_notInK (K := K)) (pv 0) (pv 3) (by rfl)))) (fun cl C s0 H0 fp pn => (pv 0)) (by kernel_rfl)))))), ?_⟩
  have zer : (0 : Nat) ≤ sizeLine := by decide
  refine ⟨zer, fun sf nsf => ?_⟩
  have s1 := same_new nsf (.lst [])
  refine ⟨_, rfl, p, rfl, ⟨_, SqL.of (s1 _ _ hp)⟩, for_list (xs := nats plan) (fun i σ H2 => ∃ sv, σ = [some (.ref x), some (.ref p), some (.ref sf), sv] ∧ Same H H2 ∧ H2 sf = some (.lst (nats (goneOf es (plan.take i))))) ⟨none, rfl, s1, upd_same⟩ (fun i σ H2 _ ⟨_, _, s2, _⟩ => SqL.of (s2 _ _ hp)) ?_ ?_⟩
  · rintro i y σ H2 hy ⟨sv, rfl, s2, k2⟩
    have hi : i < plan.length := by
      have := (List.getElem?_eq_some_iff.mp hy).1
      rwa [nats_length] at this
    rw [nats_get hi] at hy
    have e4 := Option.some.inj hy
    subst e4
    have hle : plan.getD i 0 ≤ es.length := hpl _ (by rw [List.getD_eq_getElem?_getD, List.getElem?_eq_getElem hi]; exact List.getElem_mem hi)
    have gl := goneOf_len es (plan.take i)
    have gl2 : (plan.take i).length * (es.length + 1) ≤ 14 * 14 := Nat.mul_le_mul (by rw [List.length_take]; omega) (by omega)
    refine ⟨_, rfl, .inl ⟨rfl, _, SqL.of k2⟩, _, rfl, x, dx, _, rfl, s2 _ _ hx, row_no _ _ (by decide +kernel) (by decide +kernel), _, rfl, x, es, ws, plan.getD i 0, rfl, I.same s2, G, hle, fun l H3 nl s3 kl => ?_⟩
    have hbl : (below es (plan.getD i 0)).length ≤ es.length + 1 := belowTo_length es _ (es.length + 1)
    refine ⟨sf, l, _, _, rfl, rfl, s3 _ _ k2, kl, small (by rw [nats_length, nats_length]; omega), ?_⟩
    refine ⟨_, rfl, same_upd (s2.trans s3) nsf, ?_⟩
    have e5 : plan.take (i + 1) = plan.take i ++ [plan.getD i 0] := by
      rw [List.take_add_one, List.getElem?_eq_getElem hi, List.getD_eq_getElem?_getD, List.getElem?_eq_getElem hi]; rfl
    rw [upd_same, e5, goneOf_snoc, nats_app]
  · rintro σ H2 ⟨sv, rfl, s2, k2⟩
    rw [nats_length, List.take_length] at k2
    have ek : (((nats plan).length : Nat) : Int) + 1 = ((plan.length + 1 : Nat) : Int) := by rw [nats_length]; omega
    refine ⟨_, rfl, _, rfl, p, _, rfl, .inl (SqL.of (s2 _ _ hp)), _, _, rfl, rfl, x, es, ws, plan.length + 1, congrArg (fun z => [V.ref x, V.int z]) ek, I.same s2, G, Nat.succ_pos _, fun l nl => ?_⟩
    have s3 := same_new nl (.lst (nats (free es (plan.length + 1) [])))
    have kl := upd_same (H := H2) (a := l) (o := .lst (nats (free es (plan.length + 1) [])))
    generalize upd H2 l (.lst (nats (free es (plan.length + 1) []))) = H3 at s3 kl ⊢
    refine ⟨l, rfl, ⟨_, SqL.of kl⟩, ?_⟩
    have fl : (free es (plan.length + 1) []).length ≤ es.length + 1 := freeTo_length es _ [] (es.length + 1)
    refine lc_list (xs := nats (free es (plan.length + 1) [])) (fun i ys H4 => H4 = H3 ∧ ys = nats (((free es (plan.length + 1) []).take i).filter fun t => !(goneOf es plan).contains t)) ⟨rfl, rfl⟩ (by rw [nats_length]; omega)
      (fun i ys H4 ⟨_, e⟩ => by rw [e, nats_length]; exact Nat.le_trans (List.length_filter_le _ _) (by rw [List.length_take]; omega)) (fun i ys H4 _ ⟨e, _⟩ => by rw [e]; exact SqL.of kl) ?_ ?_
    · rintro i y ys H4 hy ⟨rfl, rfl⟩
      have hi : i < (free es (plan.length + 1) []).length := by
        have := (List.getElem?_eq_some_iff.mp hy).1
        rwa [nats_length] at this
      rw [nats_get hi] at hy
      have e4 := Option.some.inj hy
      subst e4
      refine ⟨_, rfl, _, rfl, sf, _, rfl, .inl (SqL.of (s3 _ _ k2)), rfl, nats_flat _, _, rfl, ite2 (fun c => ?_) (fun c => ?_)⟩
      · have c' : (!inV (.int ((free es (plan.length + 1) []).getD i 0 : Nat)) (nats (goneOf es plan))) = true := c
        rw [nats_in] at c'
        have m : ¬ (free es (plan.length + 1) []).getD i 0 ∈ goneOf es plan := by simpa using c'
        refine ⟨_, rfl, rfl, ?_⟩
        rw [take_filter_succ _ hi]
        generalize (free es (plan.length + 1) []).getD i 0 = y0 at m ⊢
        rw [if_pos (by simp [m]), nats_app]; rfl
      · have c' : ¬ (!inV (.int ((free es (plan.length + 1) []).getD i 0 : Nat)) (nats (goneOf es plan))) = true := c
        rw [nats_in] at c'
        have m : (free es (plan.length + 1) []).getD i 0 ∈ goneOf es plan := by simpa using c'
        refine ⟨rfl, ?_⟩
        rw [take_filter_succ _ hi]
        generalize (free es (plan.length + 1) []).getD i 0 = y0 at m ⊢
        rw [if_neg (by simp [m]), List.append_nil]
    · rintro ys H4 ⟨rfl, rfl⟩ r nr
      rw [nats_length, List.take_length, free_filter]
      exact q r _ ((s2.trans s3).free nr) ((s2.trans s3).trans (same_new nr _)) upd_same
end
end FT
set_option Elab.async false
set_option maxHeartbeats 4000000
set_option maxRecDepth 20000
namespace L2
open PySem PySem.Spec PyProof.Rows
/-- a def that raises nothing under a promise without exceptions -/
theorem FnOk.calm {P : Program} {w : World} {K : PySem.W.Frag} {mg : Str → Option Value} {base : Heap} {k : Nat} {f : Addr} {fd : FuncData} {ps : List Str} {sp : Sp} (F : FnOk P w K mg base (CX1 P w) k f fd ps sp) : FnOk P w K mg base CX0 k f fd ps (fun vs H Q _ => sp vs H Q E0) :=
  ⟨fun vs H Q E h => F.len _ _ _ _ h, fun A outer s H args us vs Q E hr he hb hv hs => codeAny_mono (F.run A outer s H args us vs Q E0 hr he hb hv hs) fun r s' h => by
    cases r with
    | error e =>
      obtain ⟨_, _, _, _, _, _, F⟩ := h
      exact F.wish.elim
    | ok fl => cases fl <;> exact h⟩
end L2
namespace FT
open PySem L2 TM
abbrev s_bf : Stmt := (top 14)
abbrev s_great : Stmt := (top 15)
abbrev lamE : Expr := retKw ((defBody s_bf).getD 2 (.Pass ⟨0, 0, 0, 0⟩))
abbrev lamQ : Str := ("best_from" : Str) ++ ".<locals>." ++ "<lambda>"
/-- the table of best_from's code -/
abbrev Tab (Pt : Addr) (H : Hp) : Prop := TabOk lamQ (lamPos lamE).line (lamPos lamE).col Pt H
theorem optVs_zplan (plan : List Nat) : optVs (zplan plan) = nats plan := by
  unfold optVs zplan nats
  rw [List.map_map]; rfl
theorem IsTree.t {C : Addr} {H H' : Hp} {x : Addr} {es ws : List Nat} (t : IsTree C H x es ws) (s : SameT H H') : IsTree C H' x es ws := by
  obtain ⟨dx, p, q, a, b, c⟩ := t
  exact ⟨dx, p, q, s.ins a, s.tupl b, s.tupl c⟩
/-- a list written anew: the table stays -/
theorem _root_.L2.TabOk.lst {qual : Str} {line col : Nat} {P b : Addr} {H : Hp} {xs : List V} {o : HO} (t : TabOk qual line col P H) (e : H b = some (.lst xs)) : TabOk qual line col P (upd H b o) := by
  rcases t with z | ⟨c, oc, vs, t, e1, e2, e3⟩
  · exact .inl (by rw [upd_ne (ne_of z e (by intro z; cases z))]; exact z)
  · exact .inr ⟨c, oc, vs, t, by rw [upd_ne (ne_of e1 e (by intro z; cases z))]; exact e1, by rw [upd_ne (ne_of e2 e (by intro z; cases z))]; exact e2, e3⟩
section
variable (C Pt : Addr)
/-- saved(tree, plan) of a plan without a fault -/
def spSaved : Sp := fun vs H Q _ => ∃ (x p : Addr) (es ws : List Nat) (plan : List (Option Int)), vs = [.ref x, .ref p] ∧ IsTree C H x es ws ∧ H p = some (.lst (optVs plan)) ∧ Good es ws ∧ plan.length ≤ 20 ∧ (∀ j, j < plan.length → flt es plan j = 0) ∧
  ∀ H', Same H H' → Q (.int (savedAt es ws (tn plan) (plan.length + es.length + 1) : Nat)) H'
/-- best_from(tree, plan), n minutes still to come -/
def spBF (n : Nat) : Sp := fun vs H Q _ => ∃ (x p : Addr) (es ws plan : List Nat), vs = [.ref x, .ref p] ∧ IsTree C H x es ws ∧ Good es ws ∧ H p = some (.lst (nats plan)) ∧ Pre es plan ∧ plan.length ≤ es.length ∧ es.length < plan.length + 1 + n ∧ Tab Pt H ∧
  ∀ (t q : Addr) (rest : List Nat) (H' : Hp), SameT H H' → Tab Pt H' → (q = p ∨ H q = none) → H' t = some (.tup [.int (((plan ++ rest).map (worth es ws)).sum : Nat), .ref q]) → H' q = some (.lst (nats (plan ++ rest))) → LevelFrom es (plan.length + 1) (goneOf es plan) rest →
    (rest.map (worth es ws)).sum = best es ws n (plan.length + 1) (goneOf es plan) → Q (.ref t) H'
/-- greatest(tree) -/
def spGreatest : Sp := fun vs H Q _ => ∃ (x : Addr) (es ws : List Nat), vs = [.ref x] ∧ IsTree C H x es ws ∧ Good es ws ∧ Tab Pt H ∧
  ∀ (t p : Addr) (plan : List Nat) (H' : Hp), SameT H H' → Tab Pt H' → H p = none → H' t = some (.tup [.int (best es ws es.length 1 [] : Nat), .ref p]) → H' p = some (.lst (nats plan)) → LevelFrom es 1 [] plan → (plan.map (worth es ws)).sum = best es ws es.length 1 [] → Q (.ref t) H'
end
/-- one of the plans found: the thing first shut off, the tuple, the plan's list, what comes behind -/
def Found (es ws : List Nat) (n : Nat) (plan : List Nat) (H0 H : Hp) (c : Nat) (t : Addr) : Prop :=
  ∃ (q : Addr) (rest : List Nat), H0 q = none ∧ H t = some (.tup [.int (((plan ++ [c] ++ rest).map (worth es ws)).sum : Nat), .ref q]) ∧ H q = some (.lst (nats (plan ++ [c] ++ rest))) ∧ LevelFrom es (plan.length + 1 + 1) (goneOf es (plan ++ [c])) rest ∧
    (rest.map (worth es ws)).sum = best es ws n (plan.length + 1 + 1) (goneOf es (plan ++ [c]))
theorem Found.t {es ws : List Nat} {n : Nat} {plan : List Nat} {H0 H H' : Hp} {c : Nat} {t : Addr} (h : Found es ws n plan H0 H c t) (s : SameT H H') : Found es ws n plan H0 H' c t := by
  obtain ⟨q, rest, a, b, d, e⟩ := h
  exact ⟨q, rest, a, s.tupl b, s.lst d, e⟩
section
variable {P : Program} {w : World} {K : PySem.W.Frag} {mg : Str → Option Value} {base : Heap} {f C CN CP Pt cc : Addr} {fd : FuncData}
theorem ok_savedC (F : Fun K "saved" "saved" s_saved f fd) (N : Nm mg) (Mworths : MethOk P w K mg base (CX1 P w) C "worths" 1 ["self"] (spGetW C)) (Dburnt : DefOk P w K mg base (CX1 P w) "burnt" 4 ["tree", "plan"] (spBurntX C CN CP)) : FnOk P w K mg base CX0 5 f fd ["tree", "plan"] (spSaved C) :=
  (ok_saved F N Mworths Dburnt).calm.imp fun vs H Q E ⟨x, p, es, ws, plan, e, I, hp, G, h20, ok, q⟩ => ⟨x, p, es, ws, plan, e, I, hp, G, h20, fun k c hk _ hc hn => absurd (hc.symm.trans (ok k hk)) hn, fun _ H' s => q H' s⟩
theorem sc_bf : FnScope ["tree", "plan", "found"] ["tree", "plan"] (defScope s_bf) := ⟨rfl, rfl, rfl, by decide +kernel, rfl, by decide +kernel, by decide +kernel⟩
theorem sc_lam : FnScope ["pair"] ["pair"] (lamScope lamE) := ⟨rfl, rfl, rfl, by decide +kernel, rfl, by decide +kernel, by decide +kernel⟩
theorem lam_ix (K : PySem.W.Frag) (P : Program) (w : World) (mg : Str → Option Value) (base : Heap) (f : Addr) (cdv : Value) (A : Around) (outer : List Env) (s : Shared) (H : Hp) : PE (cxOf CX0 P w K mg base ["pair"] lamQ (lamScope lamE) f cdv A outer s H E0).nox (lamBody lamE) (tOp (rIxT K) (tVar 0) (tC (.int 0))) :=
  pe_ix ix_tup (pv 0) pe_int (fun _ _ => rfl)
theorem lam_bind (pm cdv ct u : Value) : bindArgs (PySem.W.kla_fn "<lambda>" lamQ (lamArgs lamE) (lamBody lamE) (lamScope lamE) [] pm cdv ct) ⟨[u], []⟩ = pure [(("pair" : Str), u)] := rfl
theorem ok_bfN (F : Fun K "best_from" "best_from" s_bf f fd) (hc : fd.code = .ref cc) (N : Nm mg) (TB : TabK K mg base cc Pt) (Dchoices : DefOk P w K mg base CX0 "choices" 5 ["tree", "plan"] (spChoices C)) (Dsaved : DefOk P w K mg base CX0 "saved" 5 ["tree", "plan"] (spSaved C))
    (n : Nat) (sp : Sp) (Dbest_from : DefOk P w K mg base CX0 "best_from" (n + 6) ["tree", "plan"] sp) (hsp : ∀ vs H Q E, 0 < n → spBF C Pt (n - 1) vs H Q E → sp vs H Q E) : FnOk P w K mg base CX0 (n + 7) f fd ["tree", "plan"] (spBF C Pt n) := by
  refine F.okC hc sc_bf (fun vs H Q E h => ?_) (fun A outer s H vs Q E hr h => ?_)
  · obtain ⟨x, p, es, ws, plan, rfl, _⟩ := h
    rfl
  obtain ⟨x, p, es, ws, plan, rfl, I, G, hp, hpre, hpl, hn, tab, q⟩ := h
  have hnd := sc_bf.nd
  have mn_len := N.len
  have mn_max := N.max
  have hE : Eld es := G.lt
  have hlen := G.len
  have hmost := G.most
  have hlam := @pe_lam (cxOf CX0 P w K mg base ["tree", "plan", "found"] "best_from" (defScope s_bf) f (.ref cc) A outer s H E).nox (lamArgs lamE) (lamBody lamE) (lamScope lamE) (lamPos lamE) cc Pt TB rfl rfl rfl
  have hkey := fun q => @key_first (cxOf CX0 P w K mg base ["tree", "plan", "found"] "best_from" (defScope s_bf) f (.ref cc) A outer s H E).nox (n + 4) lamQ (lamArgs lamE) "pair" (lamBody lamE) (lamScope lamE) sc_lam hr lam_bind lam_ix q
  refine ⟨_, (pss_cons (ps_setLC ["tree", "plan", "found"] (i := 2) rfl hnd rfl rfl (pi_list (pe_def Dchoices hr pass0 (pa_cons (pv 0) (pa_cons (pv 1) pa_nil)) (by omega))) (fun cl C s0 H0 fp pn => pts_nil) (fun cl C s0 H0 fp pn => (pe_def Dbest_from hr pass0 (pa_cons (pv 1) (pa_cons (pe_op op_cat (pv 2) (pe_lst (pa_cons (pv 0) pa_nil))) pa_nil)) (by omega))) (by kernel_rfl))
    (pss_cons (ps_if (pt_cmpR op_eq (pe_callB call_len_seq (by rfl) mn_len PySem.boot_len (pa_cons (pv 2) pa_nil)) pe_int (nomark _)) (pss_one (ps_ret (pe_tup (pa_cons (pe_def Dsaved hr pass0 (pa_cons (pv 0) (pa_cons (pv 1) pa_nil)) (by omega)) (pa_cons (pv 1) pa_nil))))) pss_nil)
    (pss_one (ps_ret (pe_maxK rfl mn_max (pa_cons (pv 2) pa_nil) hlam hkey))))), ?_⟩
  have one : (1 : Nat) ≤ sizeLine := by decide
  have two : (2 : Nat) ≤ sizeLine := by decide
  refine ⟨_, rfl, _, rfl, x, p, es, ws, plan, rfl, I, G, hp, by omega, hpre.le, fun l H1 nl s1 kl => ⟨l, rfl, ⟨_, SqL.of kl⟩, ?_⟩⟩
  have fl : (free es (plan.length + 1) (goneOf es plan)).length ≤ es.length + 1 := freeTo_length es _ _ (es.length + 1)
  generalize hcs : free es (plan.length + 1) (goneOf es plan) = cs at kl fl
  refine lc_listY (xs := nats cs) (fun i ys H2 => ∃ ts : List Addr, ys = ts.map V.ref ∧ ts.length = i ∧ SameT H1 H2 ∧ Tab Pt H2 ∧ ∀ (j : Nat) t, ts[j]? = some t → Found es ws (n - 1) plan H H2 (cs.getD j 0) t) ⟨[], rfl, rfl, SameT.refl _, tab.same s1, fun j t e => by simp at e⟩ (by rw [nats_length]; omega)
    (fun i ys H2 ⟨ts, e1, e2, _⟩ => by rw [e1, List.length_map, e2]; exact Nat.le_refl _) (fun i ys H2 _ ⟨_, _, _, s2, _⟩ => SqL.of (s2.lst kl)) ?_ ?_
  · rintro i y ys H2 hy ⟨ts, rfl, hts, s2, tab2, hf⟩
    have hi : i < cs.length := by
      have := (List.getElem?_eq_some_iff.mp hy).1
      rwa [nats_length] at this
    rw [nats_get hi] at hy
    have e4 := Option.some.inj hy
    subst e4
    have hm : cs.getD i 0 ∈ free es (plan.length + 1) (goneOf es plan) := by
      rw [hcs, List.getD_eq_getElem?_getD, List.getElem?_eq_getElem hi]
      exact List.getElem_mem hi
    have hl2 := Pre.len hE hm
    have n0 : 0 < n := by omega
    have s12 := s1.t.trans s2
    refine ⟨_, rfl, _, rfl, _, rfl, one, fun g ng => ?_⟩
    have s3 := same_new ng (.lst [.int (cs.getD i 0 : Nat)])
    have k3 := upd_same (H := H2) (a := g) (o := .lst [.int (cs.getD i 0 : Nat)])
    generalize upd H2 g (.lst [.int (cs.getD i 0 : Nat)]) = H3 at s3 k3 ⊢
    refine ⟨p, g, _, _, rfl, rfl, s3 _ _ (s12.lst hp), k3, small (by rw [nats_length]; show _ + 1 ≤ _; omega), fun g2 ng2 => ?_⟩
    have s4 := same_new ng2 (.lst (nats plan ++ [.int (cs.getD i 0 : Nat)]))
    have k4 : upd H3 g2 (.lst (nats plan ++ [.int (cs.getD i 0 : Nat)])) g2 = some (.lst (nats (plan ++ [cs.getD i 0]))) := by rw [upd_same, nats_app]; rfl
    have f4 : H g2 = none := s12.free (s3.free ng2)
    generalize upd H3 g2 (.lst (nats plan ++ [.int (cs.getD i 0 : Nat)])) = H4 at s4 k4 ⊢
    have s14 := s12.trans (s3.trans s4).t
    have hl3 : (plan ++ [cs.getD i 0]).length = plan.length + 1 := List.length_append
    refine hsp _ _ _ _ n0 ⟨x, g2, es, ws, plan ++ [cs.getD i 0], rfl, I.t s14, G, k4, hpre.snoc hm, by omega, by omega, tab2.same (s3.trans s4), fun t qq rest H5 s5 tab5 hq ht hqq hL hW => ?_⟩
    rw [hl3] at hL hW
    refine ⟨ts ++ [t], by rw [List.map_append]; rfl, by rw [List.length_append, hts]; rfl, s2.trans ((s3.trans s4).t.trans s5), tab5, fun j t' e => ?_⟩
    by_cases hj : j < ts.length
    · rw [List.getElem?_append_left hj] at e
      exact (hf j t' e).t ((s3.trans s4).t.trans s5)
    · have hj2 : j = i := by
        have := (List.getElem?_eq_some_iff.mp e).1
        rw [List.length_append] at this
        have : j < ts.length + 1 := this
        omega
      subst hj2
      rw [List.getElem?_append_right (by omega), hts, Nat.sub_self] at e
      cases e
      refine ⟨qq, rest, ?_, ht, hqq, hL, hW⟩
      rcases hq with rfl | hq
      · exact f4
      · exact s14.free hq
  · rintro ys H2 ⟨ts, rfl, hts, s2, tab2, hf⟩ fo nfo
    rw [nats_length] at hts
    have s3 := same_new nfo (.lst (ts.map V.ref))
    have k3 := upd_same (H := H2) (a := fo) (o := .lst (ts.map V.ref))
    generalize upd H2 fo (.lst (ts.map V.ref)) = H3 at s3 k3 ⊢
    have s13 := s1.t.trans (s2.trans s3.t)
    have tab3 := tab2.same s3
    have hf3 : ∀ (j : Nat) t, ts[j]? = some t → Found es ws (n - 1) plan H H3 (cs.getD j 0) t := fun j t e => (hf j t e).t s3.t
    refine ⟨_, rfl, fo, _, rfl, .inl (SqL.of k3), rfl, _, rfl, ite2 (fun c => ?_) (fun c => ?_)⟩
    · have c' : V.int (((ts.map V.ref).length : Nat) : Int) = V.int 0 := of_decide_eq_true c
      have hz : ts.length = 0 := by
        have := V.int.inj c'
        rw [List.length_map] at this
        omega
      have hnil : free es (plan.length + 1) (goneOf es plan) = [] := by rw [hcs]; exact List.eq_nil_of_length_eq_zero (by omega)
      have L := hpre.on [] hnil
      rw [List.append_nil] at L
      have lz : (zplan plan).length = plan.length := List.length_map _
      refine ⟨_, rfl, _, rfl, x, p, es, ws, zplan plan, rfl, I.t s13, by rw [optVs_zplan]; exact s13.lst hp, G, by omega, fun j _ => level_ok hE L j, fun H4 s4 => ⟨_, rfl, two, fun t nt => ?_⟩⟩
      have hsv : savedAt es ws (tn (zplan plan)) ((zplan plan).length + es.length + 1) = (plan.map (worth es ws)).sum := by
        rw [tn_zplan, level_saved hE ws L (by omega)]
      rw [hsv]
      have s5 := same_new nt (.tup [.int ((plan.map (worth es ws)).sum : Nat), .ref p])
      have s45 := s4.trans s5
      refine q t p [] _ (s13.trans s45.t) (tab3.same s45) (.inl rfl) (by rw [List.append_nil]; exact upd_same) (by rw [List.append_nil]; exact s45 _ _ (s13.lst hp)) hnil ?_
      rw [best_zero es ws hnil]; rfl
    · have c' : ¬ V.int (((ts.map V.ref).length : Nat) : Int) = V.int 0 := of_decide_eq_false (Bool.eq_false_iff.mpr c)
      have hz : 0 < ts.length := by
        rw [List.length_map] at c'
        cases hq : ts.length with
        | zero => rw [hq] at c'; exact absurd rfl c'
        | succ m => exact Nat.succ_pos m
      have hcm : ∀ j, j < cs.length → cs.getD j 0 ∈ free es (plan.length + 1) (goneOf es plan) := fun j hj => by
        rw [hcs, List.getD_eq_getElem?_getD, List.getElem?_eq_getElem hj]
        exact List.getElem_mem hj
      have n0 : 0 < n := by
        have := Pre.len hE (hcm 0 (by omega))
        omega
      obtain ⟨m, rfl⟩ : ∃ m, n = m + 1 := ⟨n - 1, by omega⟩
      rw [Nat.add_sub_cancel] at hf3
      -- the worth of the j-th plan found
      have hval : ∀ (j : Nat) t, ts[j]? = some t → ∃ qq, H3 t = some (.tup [.int (((plan.map (worth es ws)).sum + (worth es ws (cs.getD j 0) + best es ws m (plan.length + 1 + 1) (goneOf es plan ++ below es (cs.getD j 0))) : Nat)), .ref qq]) := fun j t e => by
        obtain ⟨qq, rest, a, b, d, e1, e2⟩ := hf3 j t e
        refine ⟨qq, ?_⟩
        rw [b, List.map_append, List.map_append, List.sum_append, List.sum_append, e2, goneOf_snoc]
        congr 5
        simp
        omega
      refine ⟨_, rfl, fo, rfl, tab3, fun la H4 s4 tab4 nla hla => ⟨la, rfl, ts.map V.ref, fun j ns H5 => H5 = H4 ∧ ns = (cs.take j).map fun c => (((plan.map (worth es ws)).sum + (worth es ws c + best es ws m (plan.length + 1 + 1) (goneOf es plan ++ below es c)) : Nat) : Int), by rw [List.length_map]; exact hz, ⟨rfl, rfl⟩, ?_, ?_, ?_⟩⟩
      · rintro j ns H5 ⟨rfl, _⟩
        exact SqL.of (s4.lst k3)
      · rintro j y ns H5 hy hns ⟨rfl, rfl⟩
        obtain ⟨t, et, rfl⟩ : ∃ t, ts[j]? = some t ∧ y = .ref t := by
          rw [List.getElem?_map] at hy
          cases hq : ts[j]? with
          | none => rw [hq] at hy; cases hy
          | some t => rw [hq] at hy; exact ⟨t, rfl, (Option.some.inj hy).symm⟩
        have hj : j < cs.length := by
          have := (List.getElem?_eq_some_iff.mp et).1
          omega
        obtain ⟨qq, hv⟩ := hval j t et
        refine ⟨la, rfl, hla, t, _, _, rfl, SqT.of (s4.tupl hv), rfl, ?_⟩
        rw [List.take_add_one, List.getElem?_eq_getElem hj, List.map_append]
        congr 1
        rw [List.getD_eq_getElem?_getD, List.getElem?_eq_getElem hj]; rfl
      · rintro j y ns H5 hy hns hbest ⟨rfl, rfl⟩
        obtain ⟨t, et, rfl⟩ : ∃ t, ts[j]? = some t ∧ y = .ref t := by
          rw [List.getElem?_map] at hy
          cases hq : ts[j]? with
          | none => rw [hq] at hy; cases hy
          | some t => rw [hq] at hy; exact ⟨t, rfl, (Option.some.inj hy).symm⟩
        have hj : j < cs.length := by
          have := (List.getElem?_eq_some_iff.mp et).1
          omega
        obtain ⟨qq, rest, a, b, d, e1, e2⟩ := hf3 j t et
        have hall : ∀ i, i < cs.length → worth es ws (cs.getD i 0) + best es ws m (plan.length + 1 + 1) (goneOf es plan ++ below es (cs.getD i 0)) ≤ worth es ws (cs.getD j 0) + best es ws m (plan.length + 1 + 1) (goneOf es plan ++ below es (cs.getD j 0)) := fun i hi => by
          have := (hbest i (by rw [hns, List.length_map]; omega)).1
          rw [List.length_map, hts, List.take_length] at this
          rw [List.getD_eq_getElem?_getD, List.getD_eq_getElem?_getD, List.getElem?_map, List.getElem?_map, List.getElem?_eq_getElem hi, List.getElem?_eq_getElem hj] at this
          rw [List.getD_eq_getElem?_getD, List.getD_eq_getElem?_getD, List.getElem?_eq_getElem hi, List.getElem?_eq_getElem hj]
          simp at this ⊢
          omega
        have hB := best_at es ws (f := m) (hcm j hj) fun y hy => by
          rw [hcs] at hy
          obtain ⟨i, hi, e⟩ := List.getElem_of_mem hy
          have := hall i hi
          rw [show cs.getD i 0 = y by rw [List.getD_eq_getElem?_getD, List.getElem?_eq_getElem hi, e]; rfl] at this
          exact this
        rw [List.append_assoc] at b d
        refine q t qq ([cs.getD j 0] ++ rest) _ (s13.trans s4) tab4 (.inr a) (s4.tupl b) (s4.lst d) ⟨hcm j hj, by rw [← goneOf_snoc]; exact e1⟩ ?_
        rw [hB, List.map_append, List.sum_append, e2, goneOf_snoc]
        simp
theorem ok_bf (F : Fun K "best_from" "best_from" s_bf f fd) (b : Binds K fd ["tree", "plan"] []) (hk : PySem.W.keepIn K (.ref f) = true) (hm : mg "best_from" = some (.ref f)) (hc : fd.code = .ref cc) (N : Nm mg) (TB : TabK K mg base cc Pt)
    (Dchoices : DefOk P w K mg base CX0 "choices" 5 ["tree", "plan"] (spChoices C)) (Dsaved : DefOk P w K mg base CX0 "saved" 5 ["tree", "plan"] (spSaved C)) : ∀ n, FnOk P w K mg base CX0 (n + 7) f fd ["tree", "plan"] (spBF C Pt n)
  | 0 => ok_bfN F hc N TB Dchoices Dsaved 0 spNo ⟨f, fd, ⟨fun _ _ _ _ h => (show False from h).elim, fun _ _ _ _ _ _ _ _ _ _ _ _ _ h => (show False from h).elim⟩, b, hk, hm⟩ (fun _ _ _ _ h => absurd h (Nat.lt_irrefl 0))
  | n + 1 => ok_bfN F hc N TB Dchoices Dsaved (n + 1) (spBF C Pt n) ⟨f, fd, ok_bf F b hk hm hc N TB Dchoices Dsaved n, b, hk, hm⟩ (fun _ _ _ _ _ h => h)
theorem sc_great : FnScope ["tree"] ["tree"] (defScope s_great) := ⟨rfl, rfl, rfl, by decide +kernel, rfl, by decide +kernel, by decide +kernel⟩
theorem ok_great (F : Fun K "greatest" "greatest" s_great f fd) (Dbest_from : DefOk P w K mg base CX0 "best_from" 21 ["tree", "plan"] (spBF C Pt 14)) : FnOk P w K mg base CX0 22 f fd ["tree"] (spGreatest C Pt) := by
  refine F.ok sc_great (fun vs H Q E h => ?_) (fun cdv A outer s H vs Q E hr h => ?_)
  · obtain ⟨x, es, ws, rfl, _⟩ := h
    rfl
  obtain ⟨x, es, ws, rfl, I, G, tab, q⟩ := h
  have hlen := G.len
  have hmost := G.most
  have hE : Eld es := G.lt
  refine ⟨_, (pss_one (ps_ret (pe_def Dbest_from hr pass0 (pa_cons (pv 0) (pa_cons (pe_lst pa_nil) pa_nil))))), ?_⟩
  have zer : (0 : Nat) ≤ sizeLine := by decide
  refine ⟨_, rfl, zer, fun g ng => ?_⟩
  have s1 := same_new ng (.lst [])
  refine ⟨x, g, es, ws, [], rfl, I.same s1, G, upd_same, Pre.nil es, Nat.zero_le _, by show es.length < 0 + 1 + 14; omega, tab.same s1, fun t qq rest H2 s2 tab2 hq ht hqq hL hW => ?_⟩
  have hb : (rest.map (worth es ws)).sum = best es ws es.length 1 [] := by
    have : best es ws 14 1 [] = best es ws es.length 1 [] := best_any hE ws (by omega)
    rw [← this]; exact hW
  refine q t qq rest H2 (s1.t.trans s2) tab2 ?_ (by rw [← hb]; exact ht) hqq hL hb
  rcases hq with rfl | hq
  · exact ng
  · exact s1.free hq
end
end FT
set_option Elab.async false
set_option maxHeartbeats 4000000
set_option maxRecDepth 20000
namespace FT
open PySem L2 TM
abbrev s_law : Stmt := (top 38)
/-- law(script), with the table still empty -/
def spLawT (K : PySem.W.Frag) (Pt : Addr) : Sp := fun vs H Q _ => ∃ (a : Addr) (ns : List Int), vs = [.ref a] ∧ SqL K H a (ns.map V.int) ∧ ns.length ≤ 63 ∧ H Pt = some (.tbl #[]) ∧ ∀ H', Q (.bl true) H'
section
variable {P : Program} {w : World} {K : PySem.W.Frag} {mg : Str → Option Value} {base : Heap} {f C Pt : Addr} {fd : FuncData}
theorem sc_law : FnScope ["script", "plot", "tree", "turn", "found"] ["script"] (defScope s_law) := ⟨rfl, rfl, rfl, by decide +kernel, rfl, by decide +kernel, by decide +kernel⟩
theorem ok_law (F : Fun K "law" "law" s_law f fd) (N : Nm mg) (TT : PySem.W.kitOne K (.type "tuple") (.type "tuple") = some true) (D_law_tree : DefOk P w K mg base CX0 "_law_tree" 4 ["script", "most"] (spTree K)) (DTree : ClsOk P w K mg base CX0 "Tree" C 2 ["self", "elders", "worths"] (spInit C))
    (Dgreatest : DefOk P w K mg base CX0 "greatest" 22 ["tree"] (spGreatest C Pt)) (Dsaved : DefOk P w K mg base CX0 "saved" 5 ["tree", "plan"] (spSaved C)) (D_law_whole : DefOk P w K mg base CX0 "_law_whole" 1 ["found"] spWhole)
    (D_law_numbers : DefOk P w K mg base CX0 "_law_numbers" 2 ["found", "due"] spNumbers) (D_law_level_plan : DefOk P w K mg base CX0 "_law_level_plan" 3 ["elders", "plan"] (spLevel K)) (D_law_saved : DefOk P w K mg base CX0 "_law_saved" 2 ["plot", "plan"] (spSavedL K))
    (D_law_best : DefOk P w K mg base CX0 "_law_best" 17 ["plot", "depth", "gone"] (spBest K 14)) : FnOk P w K mg base CX0 23 f fd ["script"] (spLawT K Pt) := by
  refine F.ok sc_law (fun vs H Q E h => ?_) (fun cdv A outer s H vs Q E hr h => ?_)
  · obtain ⟨a, ns, rfl, _⟩ := h
    rfl
  obtain ⟨a, ns, rfl, hS, h63, tab0, q⟩ := h
  have hnd := sc_law.nd
  have hpo := @PassesOwn.never
  have mn_range := N.range
  have mn_len := N.len
  have mn_list := N.list
  have mn_tuple := N.tuple
  have mn_isinstance := N.isinstance
  refine ⟨_, (pss_cons (ps_set (i := 1) hnd rfl (by first | exact Or.inl rfl | exact Or.inr rfl) (pe_def D_law_tree hr pass0 (pa_cons (pv 0) (pa_cons pe_int pa_nil))))
    (pss_cons (ps_set (i := 2) hnd rfl (by first | exact Or.inl rfl | exact Or.inr rfl) (pe_cls DTree hr pass0 (pa_cons (pe_callTy call_list_of (by rfl) mn_list bo_list (pa_cons (pe_ix ix_tup (pv 1) pe_int (fun _ _ => rfl)) pa_nil)) (pa_cons (pe_callTy call_list_of (by rfl) mn_list bo_list (pa_cons (pe_ix ix_tup (pv 1) pe_int (fun _ _ => rfl)) pa_nil)) pa_nil))))
    (pss_cons (ps_for hpo rfl (pi_range1 (by rfl) mn_range (pa_cons pe_int pa_nil)) (pg_name (i := 3) hnd rfl (by first | exact Or.inl rfl | exact Or.inr rfl)) (pss_cons (ps_set (i := 4) hnd rfl (by first | exact Or.inl rfl | exact Or.inr rfl) (pe_def Dgreatest hr pass0 (pa_cons (pv 2) pa_nil)))
      (pss_cons (ps_if (PW.pt (pw_or (pt_not (pt_val (pe_callB call_isi (by rfl) mn_isinstance bo_isinstance (pa_cons (pv 4) (pa_cons (pe_bty mn_tuple bo_tuple) pa_nil))))) (pw_or (pt_cmpR op_ne (pe_callB call_len_seq (by rfl) mn_len PySem.boot_len (pa_cons (pv 4) pa_nil)) pe_int (nomark _)) (pw_or1 (pt_not (pt_val (pe_def D_law_whole hr pass0 (pa_cons (pe_ix ix_tup (pv 4) pe_int (fun _ _ => rfl)) pa_nil)))))))) (pss_one (ps_ret pe_bl)) pss_nil)
      (pss_cons (ps_if (PW.pt (pw_or (pt_not (pt_val (pe_def D_law_numbers hr pass0 (pa_cons (pe_ix ix_tup (pv 4) pe_int (fun _ _ => rfl)) (pa_cons (pe_ix ix_tup (pv 4) pe_int (fun _ _ => rfl)) pa_nil))))) (pw_or1 (pt_not (pt_val (pe_def D_law_level_plan hr pass0 (pa_cons (pe_ix ix_tup (pv 1) pe_int (fun _ _ => rfl)) (pa_cons (pe_ix ix_tup (pv 4) pe_int (fun _ _ => rfl)) pa_nil)))))))) (pss_one (ps_ret pe_bl)) pss_nil)
      (pss_cons (ps_if (PW.pt (pw_or (pt_cmpR op_ne (pe_def Dsaved hr pass0 (pa_cons (pv 2) (pa_cons (pe_callTy call_list_of (by rfl) mn_list bo_list (pa_cons (pe_ix ix_tup (pv 4) pe_int (fun _ _ => rfl)) pa_nil)) pa_nil))) (pe_ix ix_tup (pv 4) pe_int (fun _ _ => rfl)) (nomark _)) (pw_or1 (pt_cmpR op_ne (pe_def D_law_saved hr pass0 (pa_cons (pv 1) (pa_cons (pe_ix ix_tup (pv 4) pe_int (fun _ _ => rfl)) pa_nil))) (pe_ix ix_tup (pv 4) pe_int (fun _ _ => rfl)) (nomark _))))) (pss_one (ps_ret pe_bl)) pss_nil)
      (pss_cons (ps_if (PW.pt (pw_and (pt_cmpR op_eq (pv 3) pe_int (nomark _)) (pw_and1 (pt_cmpR op_ne (pe_ix ix_tup (pv 4) pe_int (fun _ _ => rfl)) (pe_def D_law_best hr pass0 (pa_cons (pv 1) (pa_cons pe_int (pa_cons (pe_lst pa_nil) pa_nil)))) (nomark _))))) (pss_one (ps_ret pe_bl)) pss_nil)
      (pss_one (ps_expr (pe_bm PySem.F.plainAttrs_list PySem.F.slot_list_append PySem.F.type_list_append mt_append (pe_ix ix_tup (pv 4) pe_int (fun _ _ => rfl)) (pa_cons pe_int pa_nil))))))))))
    (pss_one (ps_ret pe_bl))))), ?_⟩
  have zer : (0 : Nat) ≤ sizeLine := by decide
  refine ⟨_, rfl, a, ns, 14, rfl, hS, by decide, by decide, fun r e u es ws H1 fr fe fu neu s1 hr1 he1 hu1 G _ => ?_⟩
  have hlen := G.len
  have hmost := G.most
  have hE : Eld es := G.lt
  refine ⟨_, rfl, r, _, _, _, rfl, rfl, SqT.of hr1, rfl, e, _, rfl, .inl (SqL.of he1), fun l1 n1 => ?_⟩
  have z1 := same_new n1 (.lst (nats es))
  refine ⟨_, rfl, r, _, _, _, rfl, rfl, SqT.of (z1 _ _ hr1), rfl, u, _, rfl, .inl (SqL.of (z1 _ _ hu1)), fun l2 n2 => ?_⟩
  have z2 := same_new n2 (.lst (nats ws))
  have hl1 := z2 _ _ (upd_same (H := H1) (a := l1) (o := .lst (nats es)))
  have hl2 := upd_same (H := upd H1 l1 (.lst (nats es))) (a := l2) (o := .lst (nats ws))
  have z12 := z1.trans z2
  generalize upd (upd H1 l1 (.lst (nats es))) l2 (.lst (nats ws)) = H2 at hl1 hl2 z12 ⊢
  refine fun x dx nx ndx nex => ?_
  have s5 : ∀ b o, H2 b = some o → b ≠ x ∧ b ≠ dx := fun b o z => ⟨ne_of_none z nx, ne_of_none z ndx⟩
  refine ⟨x, dx, l1, l2, es, ws, rfl, upd_same, (by rw [upd_ne (s5 _ _ hl1).1, upd_ne (s5 _ _ hl1).2]; exact hl1), (by rw [upd_ne (s5 _ _ hl2).1, upd_ne (s5 _ _ hl2).2]; exact hl2), G, fun H5 k5 I5 => ⟨rfl, ?_⟩⟩
  have s25 : Same H2 H5 := fun b o z => k5 b o (s5 b o z).1 (by rw [upd_ne (s5 b o z).1, upd_ne (s5 b o z).2]; exact z)
  have s15 := z12.trans s25
  have hr5 := s15 _ _ hr1
  have he5 := s15 _ _ he1
  have hu5 := s15 _ _ hu1
  have tab5 : Tab Pt H5 := .inl (s15 _ _ (s1 _ _ tab0))
  -- for turn in range(2)
  refine ⟨2, rfl, by decide, by decide, for_range (n := 2) (fun i σ H6 => ∃ tv fv, σ = [some (.ref a), some (.ref r), some (.ref x), tv, fv] ∧ SameT H5 H6 ∧ Tab Pt H6) ⟨none, none, rfl, SameT.refl H5, tab5⟩ ?_ ?_⟩
  · rintro i σ H6 hi ⟨tv, fv, rfl, s6, tab6⟩
    refine ⟨_, rfl, x, es, ws, rfl, I5.t s6, G, tab6, fun t p plan H7 s7 tab7 np ht hp L hW => ?_⟩
    have lp := level_len hE L
    have s67 := s6.trans s7
    have fp : H5 p = none := s6.free np
    refine ⟨_, rfl, _, _, _, _, true, rfl, rfl, TyOf.tup ht, TT, _, rfl, ?_⟩
    refine iteF ?_
    refine ⟨_, rfl, t, _, rfl, .inr (SqT.of ht), rfl, _, rfl, ?_⟩
    refine iteF ?_
    refine ⟨_, rfl, t, _, _, _, rfl, rfl, SqT.of ht, rfl, _, rfl, _, rfl, ?_⟩
    refine iteF ?_
    refine ⟨_, rfl, t, _, _, _, rfl, rfl, SqT.of ht, rfl, _, rfl, t, _, _, _, rfl, rfl, SqT.of ht, rfl, p, p, plan, rfl, hp, hp, by omega, fun H8 s8 => ⟨_, rfl, ?_⟩⟩
    refine iteF ?_
    have s68 := s67.trans s8.t
    have ht8 := s8 _ _ ht
    have hp8 := s8 _ _ hp
    refine ⟨_, rfl, r, _, _, _, rfl, rfl, SqT.of (s68.tupl hr5), rfl, _, rfl, t, _, _, _, rfl, rfl, SqT.of ht8, rfl, e, p, es, plan, rfl, SqL.of (s68.lst he5), SqL.of hp8, hE, by omega, by omega, L, fun H9 s9 => ⟨_, rfl, ?_⟩⟩
    refine iteF ?_
    have s69 := s68.trans s9.t
    have ht9 := s9 _ _ ht8
    have hp9 := s9 _ _ hp8
    refine ⟨_, rfl, _, rfl, t, _, _, _, rfl, rfl, SqT.of ht9, rfl, p, _, rfl, .inl (SqL.of hp9), fun l nl => ?_⟩
    have sl := same_new nl (.lst (nats plan))
    have s6l := s69.trans sl.t
    have lz : (zplan plan).length = plan.length := List.length_map _
    have hsv : savedAt es ws (tn (zplan plan)) ((zplan plan).length + es.length + 1) = best es ws es.length 1 [] := by
      rw [tn_zplan, level_saved hE ws L (by omega), hW]
    refine ⟨x, l, es, ws, zplan plan, rfl, I5.t s6l, by rw [upd_same, optVs_zplan], G, by omega, fun j _ => level_ok hE L j, fun HA sA => ?_⟩
    have s6A := s6l.trans sA.t
    have htA := sA _ _ (sl _ _ ht9)
    have hpA := sA _ _ (sl _ _ hp9)
    refine ⟨_, rfl, t, _, _, _, rfl, rfl, SqT.of htA, rfl, rfl, _, rfl, ?_⟩
    refine ite2 (fun c => absurd (congrArg (fun n : Nat => V.int (n : Int)) hsv) (by simpa using c)) (fun _ => ?_)
    refine ⟨_, rfl, _, rfl, t, _, _, _, rfl, rfl, SqT.of htA, rfl, r, e, u, p, es, ws, zplan plan, rfl, SqT.of (s6A.tupl hr5), SqL.of (s6A.lst he5), SqL.of (s6A.lst hu5), SqL.of (by rw [optVs_zplan]; exact hpA), G, by omega, fun j _ => level_ok hE L j, fun HB sB => ?_⟩
    have s6B := s6A.trans sB.t
    have htB := sB _ _ htA
    have hpB := sB _ _ hpA
    refine ⟨_, rfl, t, _, _, _, rfl, rfl, SqT.of htB, rfl, rfl, _, rfl, ?_⟩
    refine ite2 (fun c => absurd (congrArg (fun n : Nat => V.int (n : Int)) hsv) (by simpa using c)) (fun _ => ?_)
    refine' (fun (key : ∀ HC, Same HB HC → (_ : St → Hp → Prop) [some (.ref a), some (.ref r), some (.ref x), some (.int (0 + (i : Nat))), some (.ref t)] HC) => ?main) ?rest
    case main =>
      refine ⟨_, rfl, rfl, _, rfl, ite2 (fun _ => ?_) (fun _ => iteF ?_)⟩
      rotate_left
      · exact key HB (Same.refl _)
      refine ⟨_, rfl, t, _, _, _, rfl, rfl, SqT.of htB, rfl, _, rfl, zer, fun g ng => ?_⟩
      have sg := same_new ng (.lst [])
      have s6g := s6B.trans sg.t
      refine ⟨r, e, u, g, es, ws, [], 1, rfl, SqT.of (s6g.tupl hr5), SqL.of (s6g.lst he5), SqL.of (s6g.lst hu5), upd_same, G, by omega, by decide, by decide, fun HC sC => ⟨rfl, _, rfl, ?_⟩⟩
      refine ite2 (fun c => absurd (congrArg (fun n : Nat => V.int (n : Int)) (best_any hE ws (f := 14) (by omega)).symm) (by simpa using c)) (fun _ => ?_)
      exact key HC (sg.trans sC)
    case rest =>
      intro HC sC
      refine ⟨_, rfl, t, _, _, _, rfl, rfl, SqT.of (sC _ _ htB), rfl, .inl ⟨rfl, _, SqL.of (sC _ _ hpB)⟩, p, _, _, rfl, rfl, sC _ _ hpB, small1000 (by rw [nats_length]; omega), ?_⟩
      refine ⟨_, _, rfl, (s6B.trans sC.t).upd fp, ?_⟩
      have tabC : Tab Pt HC := ((((tab7.same s8).same s9).same sl).same (sA.trans sB)).same sC
      exact tabC.lst (sC _ _ hpB)
  · rintro σ H6 ⟨tv, fv, rfl, s6, tab6⟩
    exact q H6
end
end FT
set_option Elab.async false
set_option maxHeartbeats 4000000
set_option maxRecDepth 20000
namespace FT
open PySem L2 TM
theorem all_mk {l : PySem.W.OpenLaw} {w : World} {K : PySem.W.Frag} {h : Heap} {mg : Str → Option Value} {fa C : Addr} {cc Pt : Addr} {CN CP : Addr} {tk0 : Tok} {tk1 : Tok}
    {f1 : Addr} {od1 an1 : Option Addr} {sl1 : Array (Option Value)} {oc1 kV1 dc1 pm1 cd1 ct1 : Value}
    {f2 : Addr} {od2 an2 : Option Addr} {sl2 : Array (Option Value)} {oc2 kV2 dc2 pm2 cd2 ct2 : Value}
    {f3 : Addr} {od3 an3 : Option Addr} {sl3 : Array (Option Value)} {oc3 kV3 dc3 pm3 cd3 ct3 : Value}
    {f4 : Addr} {od4 an4 : Option Addr} {sl4 : Array (Option Value)} {oc4 kV4 dc4 pm4 cd4 ct4 : Value}
    {f5 : Addr} {od5 an5 : Option Addr} {sl5 : Array (Option Value)} {oc5 kV5 dc5 pm5 cd5 ct5 : Value}
    {f6 : Addr} {od6 an6 : Option Addr} {sl6 : Array (Option Value)} {oc6 kV6 dc6 pm6 cd6 ct6 : Value}
    {f7 : Addr} {od7 an7 : Option Addr} {sl7 : Array (Option Value)} {oc7 kV7 dc7 pm7 cd7 ct7 : Value}
    {f8 : Addr} {od8 an8 : Option Addr} {sl8 : Array (Option Value)} {oc8 kV8 dc8 pm8 cd8 ct8 : Value}
    {f9 : Addr} {od9 an9 : Option Addr} {sl9 : Array (Option Value)} {oc9 kV9 dc9 pm9 cd9 ct9 : Value}
    {f10 : Addr} {od10 an10 : Option Addr} {sl10 : Array (Option Value)} {oc10 kV10 dc10 pm10 cd10 ct10 : Value}
    {f11 : Addr} {od11 an11 : Option Addr} {sl11 : Array (Option Value)} {oc11 kV11 dc11 pm11 cd11 ct11 : Value}
    {f12 : Addr} {od12 an12 : Option Addr} {sl12 : Array (Option Value)} {oc12 kV12 dc12 pm12 cd12 ct12 : Value}
    {f13 : Addr} {od13 an13 : Option Addr} {sl13 : Array (Option Value)} {oc13 kV13 dc13 pm13 cd13 ct13 : Value}
    {f14 : Addr} {od14 an14 : Option Addr} {sl14 : Array (Option Value)} {oc14 kV14 dc14 pm14 cd14 ct14 : Value}
    {f15 : Addr} {od15 an15 : Option Addr} {sl15 : Array (Option Value)} {oc15 kV15 dc15 pm15 cd15 ct15 : Value}
    {f16 : Addr} {od16 an16 : Option Addr} {sl16 : Array (Option Value)} {oc16 kV16 dc16 pm16 cd16 ct16 : Value}
    {f17 : Addr} {od17 an17 : Option Addr} {sl17 : Array (Option Value)} {oc17 kV17 dc17 pm17 cd17 ct17 : Value}
    {f18 : Addr} {od18 an18 : Option Addr} {sl18 : Array (Option Value)} {oc18 kV18 dc18 pm18 cd18 ct18 : Value}
    {f19 : Addr} {od19 an19 : Option Addr} {sl19 : Array (Option Value)} {oc19 kV19 dc19 pm19 cd19 ct19 : Value}
    {f20 : Addr} {od20 an20 : Option Addr} {sl20 : Array (Option Value)} {oc20 kV20 dc20 pm20 cd20 ct20 : Value}
    {f21 : Addr} {od21 an21 : Option Addr} {sl21 : Array (Option Value)} {oc21 kV21 dc21 pm21 cd21 ct21 : Value}
    {f22 : Addr} {od22 an22 : Option Addr} {sl22 : Array (Option Value)} {oc22 kV22 dc22 pm22 cd22 ct22 : Value}
    {f23 : Addr} {od23 an23 : Option Addr} {sl23 : Array (Option Value)} {oc23 kV23 dc23 pm23 cd23 ct23 : Value}
    {f24 : Addr} {od24 an24 : Option Addr} {sl24 : Array (Option Value)} {oc24 kV24 dc24 pm24 cd24 ct24 : Value}
    {f25 : Addr} {od25 an25 : Option Addr} {sl25 : Array (Option Value)} {oc25 kV25 dc25 pm25 cd25 ct25 : Value}
    {f26 : Addr} {od26 an26 : Option Addr} {sl26 : Array (Option Value)} {oc26 kV26 dc26 pm26 cd26 ct26 : Value}
    {f27 : Addr} {od27 an27 : Option Addr} {sl27 : Array (Option Value)} {oc27 kV27 dc27 pm27 cd27 ct27 : Value}
    {f28 : Addr} {od28 an28 : Option Addr} {sl28 : Array (Option Value)} {oc28 kV28 dc28 pm28 cd28 ct28 : Value}
    {f29 : Addr} {od29 an29 : Option Addr} {sl29 : Array (Option Value)} {oc29 kV29 dc29 pm29 cd29 ct29 : Value}
    {f30 : Addr} {od30 an30 : Option Addr} {sl30 : Array (Option Value)} {oc30 kV30 dc30 pm30 cd30 ct30 : Value}
    {f31 : Addr} {od31 an31 : Option Addr} {sl31 : Array (Option Value)} {oc31 kV31 dc31 pm31 cd31 ct31 : Value}
    {f32 : Addr} {od32 an32 : Option Addr} {sl32 : Array (Option Value)} {oc32 kV32 dc32 pm32 cd32 ct32 : Value}
    {f33 : Addr} {od33 an33 : Option Addr} {sl33 : Array (Option Value)} {oc33 kV33 dc33 pm33 cd33 ct33 : Value}
    (X : K.In h) (G : h.Ns mainGlobals mg) (hfa : mg "law" = some (.ref fa))
    (aC : PySem.W.nsIn K mainGlobals "Tree" = some (some (.ref C)))
    (a1 : PySem.W.nsIn K mainGlobals "check_lengths" = some (some (.ref f1)))
    (l1 : K.lookup f1 = some ⟨oc1, od1, .func (PySem.W.fnOf "check_lengths" "check_lengths" (defArgs s_lengths) (defBody s_lengths) (defScope s_lengths) .none kV1 dc1 pm1 an1 cd1 ct1), sl1⟩)
    (c1 : PySem.W.codeIn K cd1 "check_lengths" = true)
    (k1 : PySem.W.keepIn K (.ref f1) = true)
    (a2 : PySem.W.nsIn K mainGlobals "check_elders" = some (some (.ref f2)))
    (l2 : K.lookup f2 = some ⟨oc2, od2, .func (PySem.W.fnOf "check_elders" "check_elders" (defArgs s_chkE) (defBody s_chkE) (defScope s_chkE) .none kV2 dc2 pm2 an2 cd2 ct2), sl2⟩)
    (c2 : PySem.W.codeIn K cd2 "check_elders" = true)
    (k2 : PySem.W.keepIn K (.ref f2) = true)
    (a3 : PySem.W.nsIn K mainGlobals "check_worths" = some (some (.ref f3)))
    (l3 : K.lookup f3 = some ⟨oc3, od3, .func (PySem.W.fnOf "check_worths" "check_worths" (defArgs s_chkW) (defBody s_chkW) (defScope s_chkW) .none kV3 dc3 pm3 an3 cd3 ct3), sl3⟩)
    (c3 : PySem.W.codeIn K cd3 "check_worths" = true)
    (k3 : PySem.W.keepIn K (.ref f3) = true)
    (a4 : PySem.W.nsIn K mainGlobals "check_step" = some (some (.ref f4)))
    (l4 : K.lookup f4 = some ⟨oc4, od4, .func (PySem.W.fnOf "check_step" "check_step" (defArgs s_step) (defBody s_step) (defScope s_step) .none kV4 dc4 pm4 an4 cd4 ct4), sl4⟩)
    (c4 : PySem.W.codeIn K cd4 "check_step" = true)
    (k4 : PySem.W.keepIn K (.ref f4) = true)
    (a5 : PySem.W.nsIn K mainGlobals "catching" = some (some (.ref f5)))
    (l5 : K.lookup f5 = some ⟨oc5, od5, .func (PySem.W.fnOf "catching" "catching" (defArgs s_catch) (defBody s_catch) (defScope s_catch) .none kV5 dc5 pm5 an5 cd5 ct5), sl5⟩)
    (c5 : PySem.W.codeIn K cd5 "catching" = true)
    (k5 : PySem.W.keepIn K (.ref f5) = true)
    (a6 : PySem.W.nsIn K mainGlobals "burnt" = some (some (.ref f6)))
    (l6 : K.lookup f6 = some ⟨oc6, od6, .func (PySem.W.fnOf "burnt" "burnt" (defArgs s_burnt) (defBody s_burnt) (defScope s_burnt) .none kV6 dc6 pm6 an6 cd6 ct6), sl6⟩)
    (c6 : PySem.W.codeIn K cd6 "burnt" = true)
    (k6 : PySem.W.keepIn K (.ref f6) = true)
    (a7 : PySem.W.nsIn K mainGlobals "saved" = some (some (.ref f7)))
    (l7 : K.lookup f7 = some ⟨oc7, od7, .func (PySem.W.fnOf "saved" "saved" (defArgs s_saved) (defBody s_saved) (defScope s_saved) .none kV7 dc7 pm7 an7 cd7 ct7), sl7⟩)
    (c7 : PySem.W.codeIn K cd7 "saved" = true)
    (k7 : PySem.W.keepIn K (.ref f7) = true)
    (a8 : PySem.W.nsIn K mainGlobals "things_at" = some (some (.ref f8)))
    (l8 : K.lookup f8 = some ⟨oc8, od8, .func (PySem.W.fnOf "things_at" "things_at" (defArgs s_at) (defBody s_at) (defScope s_at) .none kV8 dc8 pm8 an8 cd8 ct8), sl8⟩)
    (c8 : PySem.W.codeIn K cd8 "things_at" = true)
    (k8 : PySem.W.keepIn K (.ref f8) = true)
    (a9 : PySem.W.nsIn K mainGlobals "choices" = some (some (.ref f9)))
    (l9 : K.lookup f9 = some ⟨oc9, od9, .func (PySem.W.fnOf "choices" "choices" (defArgs s_choices) (defBody s_choices) (defScope s_choices) .none kV9 dc9 pm9 an9 cd9 ct9), sl9⟩)
    (c9 : PySem.W.codeIn K cd9 "choices" = true)
    (k9 : PySem.W.keepIn K (.ref f9) = true)
    (a10 : PySem.W.nsIn K mainGlobals "best_from" = some (some (.ref f10)))
    (l10 : K.lookup f10 = some ⟨oc10, od10, .func (PySem.W.fnOf "best_from" "best_from" (defArgs s_bf) (defBody s_bf) (defScope s_bf) .none kV10 dc10 pm10 an10 cd10 ct10), sl10⟩)
    (c10 : PySem.W.codeIn K cd10 "best_from" = true)
    (k10 : PySem.W.keepIn K (.ref f10) = true)
    (a11 : PySem.W.nsIn K mainGlobals "greatest" = some (some (.ref f11)))
    (l11 : K.lookup f11 = some ⟨oc11, od11, .func (PySem.W.fnOf "greatest" "greatest" (defArgs s_great) (defBody s_great) (defScope s_great) .none kV11 dc11 pm11 an11 cd11 ct11), sl11⟩)
    (c11 : PySem.W.codeIn K cd11 "greatest" = true)
    (k11 : PySem.W.keepIn K (.ref f11) = true)
    (a12 : PySem.W.nsIn K mainGlobals "_law_cell_at" = some (some (.ref f12)))
    (l12 : K.lookup f12 = some ⟨oc12, od12, .func (PySem.W.fnOf "_law_cell_at" "_law_cell_at" (defArgs s_cell) (defBody s_cell) (defScope s_cell) .none kV12 dc12 pm12 an12 cd12 ct12), sl12⟩)
    (c12 : PySem.W.codeIn K cd12 "_law_cell_at" = true)
    (k12 : PySem.W.keepIn K (.ref f12) = true)
    (a13 : PySem.W.nsIn K mainGlobals "_law_draw" = some (some (.ref f13)))
    (l13 : K.lookup f13 = some ⟨oc13, od13, .func (PySem.W.fnOf "_law_draw" "_law_draw" (defArgs s_draw) (defBody s_draw) (defScope s_draw) .none kV13 dc13 pm13 an13 cd13 ct13), sl13⟩)
    (c13 : PySem.W.codeIn K cd13 "_law_draw" = true)
    (k13 : PySem.W.keepIn K (.ref f13) = true)
    (a14 : PySem.W.nsIn K mainGlobals "_law_whole" = some (some (.ref f14)))
    (l14 : K.lookup f14 = some ⟨oc14, od14, .func (PySem.W.fnOf "_law_whole" "_law_whole" (defArgs s_whole) (defBody s_whole) (defScope s_whole) .none kV14 dc14 pm14 an14 cd14 ct14), sl14⟩)
    (c14 : PySem.W.codeIn K cd14 "_law_whole" = true)
    (k14 : PySem.W.keepIn K (.ref f14) = true)
    (a15 : PySem.W.nsIn K mainGlobals "_law_elders" = some (some (.ref f15)))
    (l15 : K.lookup f15 = some ⟨oc15, od15, .func (PySem.W.fnOf "_law_elders" "_law_elders" (defArgs s_elders) (defBody s_elders) (defScope s_elders) .none kV15 dc15 pm15 an15 cd15 ct15), sl15⟩)
    (c15 : PySem.W.codeIn K cd15 "_law_elders" = true)
    (k15 : PySem.W.keepIn K (.ref f15) = true)
    (a16 : PySem.W.nsIn K mainGlobals "_law_tree" = some (some (.ref f16)))
    (l16 : K.lookup f16 = some ⟨oc16, od16, .func (PySem.W.fnOf "_law_tree" "_law_tree" (defArgs s_tree) (defBody s_tree) (defScope s_tree) .none kV16 dc16 pm16 an16 cd16 ct16), sl16⟩)
    (c16 : PySem.W.codeIn K cd16 "_law_tree" = true)
    (k16 : PySem.W.keepIn K (.ref f16) = true)
    (a17 : PySem.W.nsIn K mainGlobals "_law_depth" = some (some (.ref f17)))
    (l17 : K.lookup f17 = some ⟨oc17, od17, .func (PySem.W.fnOf "_law_depth" "_law_depth" (defArgs s_depthL) (defBody s_depthL) (defScope s_depthL) .none kV17 dc17 pm17 an17 cd17 ct17), sl17⟩)
    (c17 : PySem.W.codeIn K cd17 "_law_depth" = true)
    (k17 : PySem.W.keepIn K (.ref f17) = true)
    (a18 : PySem.W.nsIn K mainGlobals "_law_below" = some (some (.ref f18)))
    (l18 : K.lookup f18 = some ⟨oc18, od18, .func (PySem.W.fnOf "_law_below" "_law_below" (defArgs s_belowL) (defBody s_belowL) (defScope s_belowL) .none kV18 dc18 pm18 an18 cd18 ct18), sl18⟩)
    (c18 : PySem.W.codeIn K cd18 "_law_below" = true)
    (k18 : PySem.W.keepIn K (.ref f18) = true)
    (a19 : PySem.W.nsIn K mainGlobals "_law_worth" = some (some (.ref f19)))
    (l19 : K.lookup f19 = some ⟨oc19, od19, .func (PySem.W.fnOf "_law_worth" "_law_worth" (defArgs s_worthL) (defBody s_worthL) (defScope s_worthL) .none kV19 dc19 pm19 an19 cd19 ct19), sl19⟩)
    (c19 : PySem.W.codeIn K cd19 "_law_worth" = true)
    (k19 : PySem.W.keepIn K (.ref f19) = true)
    (a20 : PySem.W.nsIn K mainGlobals "_law_fire" = some (some (.ref f20)))
    (l20 : K.lookup f20 = some ⟨oc20, od20, .func (PySem.W.fnOf "_law_fire" "_law_fire" (defArgs s_fire) (defBody s_fire) (defScope s_fire) .none kV20 dc20 pm20 an20 cd20 ct20), sl20⟩)
    (c20 : PySem.W.codeIn K cd20 "_law_fire" = true)
    (k20 : PySem.W.keepIn K (.ref f20) = true)
    (a21 : PySem.W.nsIn K mainGlobals "_law_saved" = some (some (.ref f21)))
    (l21 : K.lookup f21 = some ⟨oc21, od21, .func (PySem.W.fnOf "_law_saved" "_law_saved" (defArgs s_savedL) (defBody s_savedL) (defScope s_savedL) .none kV21 dc21 pm21 an21 cd21 ct21), sl21⟩)
    (c21 : PySem.W.codeIn K cd21 "_law_saved" = true)
    (k21 : PySem.W.keepIn K (.ref f21) = true)
    (a22 : PySem.W.nsIn K mainGlobals "_law_free" = some (some (.ref f22)))
    (l22 : K.lookup f22 = some ⟨oc22, od22, .func (PySem.W.fnOf "_law_free" "_law_free" (defArgs s_free) (defBody s_free) (defScope s_free) .none kV22 dc22 pm22 an22 cd22 ct22), sl22⟩)
    (c22 : PySem.W.codeIn K cd22 "_law_free" = true)
    (k22 : PySem.W.keepIn K (.ref f22) = true)
    (a23 : PySem.W.nsIn K mainGlobals "_law_level_plan" = some (some (.ref f23)))
    (l23 : K.lookup f23 = some ⟨oc23, od23, .func (PySem.W.fnOf "_law_level_plan" "_law_level_plan" (defArgs s_level) (defBody s_level) (defScope s_level) .none kV23 dc23 pm23 an23 cd23 ct23), sl23⟩)
    (c23 : PySem.W.codeIn K cd23 "_law_level_plan" = true)
    (k23 : PySem.W.keepIn K (.ref f23) = true)
    (a24 : PySem.W.nsIn K mainGlobals "_law_best" = some (some (.ref f24)))
    (l24 : K.lookup f24 = some ⟨oc24, od24, .func (PySem.W.fnOf "_law_best" "_law_best" (defArgs s_best) (defBody s_best) (defScope s_best) .none kV24 dc24 pm24 an24 cd24 ct24), sl24⟩)
    (c24 : PySem.W.codeIn K cd24 "_law_best" = true)
    (k24 : PySem.W.keepIn K (.ref f24) = true)
    (a25 : PySem.W.nsIn K mainGlobals "_law_numbers" = some (some (.ref f25)))
    (l25 : K.lookup f25 = some ⟨oc25, od25, .func (PySem.W.fnOf "_law_numbers" "_law_numbers" (defArgs s_numbers) (defBody s_numbers) (defScope s_numbers) .none kV25 dc25 pm25 an25 cd25 ct25), sl25⟩)
    (c25 : PySem.W.codeIn K cd25 "_law_numbers" = true)
    (k25 : PySem.W.keepIn K (.ref f25) = true)
    (a26 : PySem.W.nsIn K mainGlobals "law" = some (some (.ref f26)))
    (l26 : K.lookup f26 = some ⟨oc26, od26, .func (PySem.W.fnOf "law" "law" (defArgs s_law) (defBody s_law) (defScope s_law) .none kV26 dc26 pm26 an26 cd26 ct26), sl26⟩)
    (c26 : PySem.W.codeIn K cd26 "law" = true)
    (k26 : PySem.W.keepIn K (.ref f26) = true)
    (a27 : PySem.W.findIn K (.ref C) "__init__" = some (some (.ref f27)))
    (i27 : PySem.W.isFn K (.ref f27) = true)
    (l27 : K.lookup f27 = some ⟨oc27, od27, .func (PySem.W.fnOf "__init__" "Tree.__init__" (defArgs s_init) (defBody s_init) (defScope s_init) .none kV27 dc27 pm27 an27 cd27 ct27), sl27⟩)
    (c27 : PySem.W.codeIn K cd27 "Tree.__init__" = true)
    (k27 : PySem.W.keepIn K (.ref f27) = true)
    (a28 : PySem.W.findIn K (.ref C) "elders" = some (some (.ref f28)))
    (i28 : PySem.W.isFn K (.ref f28) = true)
    (l28 : K.lookup f28 = some ⟨oc28, od28, .func (PySem.W.fnOf "elders" "Tree.elders" (defArgs s_getE) (defBody s_getE) (defScope s_getE) .none kV28 dc28 pm28 an28 cd28 ct28), sl28⟩)
    (c28 : PySem.W.codeIn K cd28 "Tree.elders" = true)
    (k28 : PySem.W.keepIn K (.ref f28) = true)
    (a29 : PySem.W.findIn K (.ref C) "worths" = some (some (.ref f29)))
    (i29 : PySem.W.isFn K (.ref f29) = true)
    (l29 : K.lookup f29 = some ⟨oc29, od29, .func (PySem.W.fnOf "worths" "Tree.worths" (defArgs s_getW) (defBody s_getW) (defScope s_getW) .none kV29 dc29 pm29 an29 cd29 ct29), sl29⟩)
    (c29 : PySem.W.codeIn K cd29 "Tree.worths" = true)
    (k29 : PySem.W.keepIn K (.ref f29) = true)
    (a30 : PySem.W.findIn K (.ref C) "things" = some (some (.ref f30)))
    (i30 : PySem.W.isFn K (.ref f30) = true)
    (l30 : K.lookup f30 = some ⟨oc30, od30, .func (PySem.W.fnOf "things" "Tree.things" (defArgs s_things) (defBody s_things) (defScope s_things) .none kV30 dc30 pm30 an30 cd30 ct30), sl30⟩)
    (c30 : PySem.W.codeIn K cd30 "Tree.things" = true)
    (k30 : PySem.W.keepIn K (.ref f30) = true)
    (a31 : PySem.W.findIn K (.ref C) "depth" = some (some (.ref f31)))
    (i31 : PySem.W.isFn K (.ref f31) = true)
    (l31 : K.lookup f31 = some ⟨oc31, od31, .func (PySem.W.fnOf "depth" "Tree.depth" (defArgs s_depth) (defBody s_depth) (defScope s_depth) .none kV31 dc31 pm31 an31 cd31 ct31), sl31⟩)
    (c31 : PySem.W.codeIn K cd31 "Tree.depth" = true)
    (k31 : PySem.W.keepIn K (.ref f31) = true)
    (a32 : PySem.W.findIn K (.ref C) "below" = some (some (.ref f32)))
    (i32 : PySem.W.isFn K (.ref f32) = true)
    (l32 : K.lookup f32 = some ⟨oc32, od32, .func (PySem.W.fnOf "below" "Tree.below" (defArgs s_below) (defBody s_below) (defScope s_below) .none kV32 dc32 pm32 an32 cd32 ct32), sl32⟩)
    (c32 : PySem.W.codeIn K cd32 "Tree.below" = true)
    (k32 : PySem.W.keepIn K (.ref f32) = true)
    (a33 : PySem.W.findIn K (.ref C) "check_thing" = some (some (.ref f33)))
    (i33 : PySem.W.isFn K (.ref f33) = true)
    (l33 : K.lookup f33 = some ⟨oc33, od33, .func (PySem.W.fnOf "check_thing" "Tree.check_thing" (defArgs s_chk) (defBody s_chk) (defScope s_chk) .none kV33 dc33 pm33 an33 cd33 ct33), sl33⟩)
    (c33 : PySem.W.codeIn K cd33 "Tree.check_thing" = true)
    (k33 : PySem.W.keepIn K (.ref f33) = true)
    (pg : PySem.W.plainGet K C Str.empty = true)
    (hd : PySem.W.hasDictIn K C = true)
    (po : PySem.W.plainOver K C = true)
    (sa : PySem.W.findIn K (.ref C) "__setattr__" = some (some (.builtin "object.__setattr__")))
    (mk : PySem.W.makesIn K C = true)
    (kc : PySem.W.keepIn K (.ref C) = true)
    (na0 : PySem.W.findIn K (.ref C) "elder_row" = some none)
    (na1 : PySem.W.findIn K (.ref C) "worth_row" = some none)
    (co0 : PySem.W.nsIn K mainGlobals "MOST_THINGS" = some (some (.int 14 tk0)))
    (co1 : PySem.W.nsIn K mainGlobals "MOST_WORTH" = some (some (.int 1000 tk1)))
    (z0 : PySem.W.nsIn K mainGlobals "len" = some none)
    (z1 : PySem.W.nsIn K mainGlobals "range" = some none)
    (z2 : PySem.W.nsIn K mainGlobals "min" = some none)
    (z3 : PySem.W.nsIn K mainGlobals "max" = some none)
    (z4 : PySem.W.nsIn K mainGlobals "list" = some none)
    (z5 : PySem.W.nsIn K mainGlobals "tuple" = some none)
    (z6 : PySem.W.nsIn K mainGlobals "sum" = some none)
    (z7 : PySem.W.nsIn K mainGlobals "isinstance" = some none)
    (z8 : PySem.W.nsIn K mainGlobals "int" = some none)
    (z9 : PySem.W.nsIn K mainGlobals "bool" = some none)
    (z10 : PySem.W.nsIn K mainGlobals "enumerate" = some none)
    (ki0 : PySem.W.kitOne K (.type "int") (.type "int") = some true)
    (ki1 : PySem.W.kitOne K (.type "int") (.type "bool") = some false)
    (ki2 : PySem.W.kitOne K (.type "list") (.type "list") = some true)
    (ki3 : PySem.W.kitOne K (.type "tuple") (.type "tuple") = some true)
    (nN : PySem.W.nsIn K mainGlobals "NoThing" = some (some (.ref CN)))
    (nP : PySem.W.nsIn K mainGlobals "BadPlan" = some (some (.ref CP)))
    (xN6 : PySem.W.excIn K CN bmVE "ValueError.__new__" = true)
    (xP6 : PySem.W.excIn K CP bmVE "ValueError.__new__" = true)
    (hcc : cd10 = .ref cc)
    (hcd : PySem.W.codeHdIn K cc Pt = true)
    (hPK : K.lookup Pt = none) :
    ∃ fd : FuncData, (∀ (s : Shared) (v : Value), BindsTo s fd ⟨[v], []⟩ [("script", v)]) ∧ (K.lookup Pt = none ∧ ∃ c, PySem.W.codeHdIn K c Pt = true) ∧ ∀ base : Heap, K.In base → base.Ns mainGlobals mg → BMain mg base → FnOk l.prog w K mg base CX0 23 fa fd ["script"] (spLawT K Pt) := by
  have e := hfa.symm.trans (PySem.W.mg_of X G a26)
  cases e
  have F1 := fun_mk (st := s_lengths) l1 c1 k1
  have b1 := F1.binds (ps := ["elders", "worths"]) fun _ _ _ _ _ _ us hl => match us, hl with | [_, _], _ => rfl
  have F2 := fun_mk (st := s_chkE) l2 c2 k2
  have b2 := F2.binds (ps := ["elders"]) fun _ _ _ _ _ _ us hl => match us, hl with | [_], _ => rfl
  have F3 := fun_mk (st := s_chkW) l3 c3 k3
  have b3 := F3.binds (ps := ["worths"]) fun _ _ _ _ _ _ us hl => match us, hl with | [_], _ => rfl
  have F4 := fun_mk (st := s_step) l4 c4 k4
  have b4 := F4.binds (ps := ["tree", "thing", "burning", "shut"]) fun _ _ _ _ _ _ us hl => match us, hl with | [_, _, _, _], _ => rfl
  have F5 := fun_mk (st := s_catch) l5 c5 k5
  have b5 := F5.binds (ps := ["elders", "burning", "shut"]) fun _ _ _ _ _ _ us hl => match us, hl with | [_, _, _], _ => rfl
  have F6 := fun_mk (st := s_burnt) l6 c6 k6
  have b6 := F6.binds (ps := ["tree", "plan"]) fun _ _ _ _ _ _ us hl => match us, hl with | [_, _], _ => rfl
  have F7 := fun_mk (st := s_saved) l7 c7 k7
  have b7 := F7.binds (ps := ["tree", "plan"]) fun _ _ _ _ _ _ us hl => match us, hl with | [_, _], _ => rfl
  have F8 := fun_mk (st := s_at) l8 c8 k8
  have b8 := F8.binds (ps := ["tree", "depth"]) fun _ _ _ _ _ _ us hl => match us, hl with | [_, _], _ => rfl
  have F9 := fun_mk (st := s_choices) l9 c9 k9
  have b9 := F9.binds (ps := ["tree", "plan"]) fun _ _ _ _ _ _ us hl => match us, hl with | [_, _], _ => rfl
  have F10 := fun_mk (st := s_bf) l10 c10 k10
  have b10 := F10.binds (ps := ["tree", "plan"]) fun _ _ _ _ _ _ us hl => match us, hl with | [_, _], _ => rfl
  have F11 := fun_mk (st := s_great) l11 c11 k11
  have b11 := F11.binds (ps := ["tree"]) fun _ _ _ _ _ _ us hl => match us, hl with | [_], _ => rfl
  have F12 := fun_mk (st := s_cell) l12 c12 k12
  have b12 := F12.binds (ps := ["script", "k"]) fun _ _ _ _ _ _ us hl => match us, hl with | [_, _], _ => rfl
  have F13 := fun_mk (st := s_draw) l13 c13 k13
  have b13 := F13.binds (ps := ["script", "k"]) fun _ _ _ _ _ _ us hl => match us, hl with | [_, _], _ => rfl
  have F14 := fun_mk (st := s_whole) l14 c14 k14
  have b14 := F14.binds (ps := ["found"]) fun _ _ _ _ _ _ us hl => match us, hl with | [_], _ => rfl
  have F15 := fun_mk (st := s_elders) l15 c15 k15
  have b15 := F15.binds (ps := ["script", "things"]) fun _ _ _ _ _ _ us hl => match us, hl with | [_, _], _ => rfl
  have F16 := fun_mk (st := s_tree) l16 c16 k16
  have b16 := F16.binds (ps := ["script", "most"]) fun _ _ _ _ _ _ us hl => match us, hl with | [_, _], _ => rfl
  have F17 := fun_mk (st := s_depthL) l17 c17 k17
  have b17 := F17.binds (ps := ["elders", "thing"]) fun _ _ _ _ _ _ us hl => match us, hl with | [_, _], _ => rfl
  have F18 := fun_mk (st := s_belowL) l18 c18 k18
  have b18 := F18.binds (ps := ["elders", "thing"]) fun _ _ _ _ _ _ us hl => match us, hl with | [_, _], _ => rfl
  have F19 := fun_mk (st := s_worthL) l19 c19 k19
  have b19 := F19.binds (ps := ["plot", "thing"]) fun _ _ _ _ _ _ us hl => match us, hl with | [_, _], _ => rfl
  have F20 := fun_mk (st := s_fire) l20 c20 k20
  have b20 := F20.binds (ps := ["elders", "plan"]) fun _ _ _ _ _ _ us hl => match us, hl with | [_, _], _ => rfl
  have F21 := fun_mk (st := s_savedL) l21 c21 k21
  have b21 := F21.binds (ps := ["plot", "plan"]) fun _ _ _ _ _ _ us hl => match us, hl with | [_, _], _ => rfl
  have F22 := fun_mk (st := s_free) l22 c22 k22
  have b22 := F22.binds (ps := ["elders", "depth", "gone"]) fun _ _ _ _ _ _ us hl => match us, hl with | [_, _, _], _ => rfl
  have F23 := fun_mk (st := s_level) l23 c23 k23
  have b23 := F23.binds (ps := ["elders", "plan"]) fun _ _ _ _ _ _ us hl => match us, hl with | [_, _], _ => rfl
  have F24 := fun_mk (st := s_best) l24 c24 k24
  have b24 := F24.binds (ps := ["plot", "depth", "gone"]) fun _ _ _ _ _ _ us hl => match us, hl with | [_, _, _], _ => rfl
  have F25 := fun_mk (st := s_numbers) l25 c25 k25
  have b25 := F25.binds (ps := ["found", "due"]) fun _ _ _ _ _ _ us hl => match us, hl with | [_, _], _ => rfl
  have F26 := fun_mk (st := s_law) l26 c26 k26
  have b26 := F26.binds (ps := ["script"]) fun _ _ _ _ _ _ us hl => match us, hl with | [_], _ => rfl
  have F27 := fun_mk (st := s_init) l27 c27 k27
  have b27 := F27.binds (ps := ["self", "elders", "worths"]) fun _ _ _ _ _ _ us hl => match us, hl with | [_, _, _], _ => rfl
  have F28 := fun_mk (st := s_getE) l28 c28 k28
  have b28 := F28.binds (ps := ["self"]) fun _ _ _ _ _ _ us hl => match us, hl with | [_], _ => rfl
  have F29 := fun_mk (st := s_getW) l29 c29 k29
  have b29 := F29.binds (ps := ["self"]) fun _ _ _ _ _ _ us hl => match us, hl with | [_], _ => rfl
  have F30 := fun_mk (st := s_things) l30 c30 k30
  have b30 := F30.binds (ps := ["self"]) fun _ _ _ _ _ _ us hl => match us, hl with | [_], _ => rfl
  have F31 := fun_mk (st := s_depth) l31 c31 k31
  have b31 := F31.binds (ps := ["self", "thing"]) fun _ _ _ _ _ _ us hl => match us, hl with | [_, _], _ => rfl
  have F32 := fun_mk (st := s_below) l32 c32 k32
  have b32 := F32.binds (ps := ["self", "thing"]) fun _ _ _ _ _ _ us hl => match us, hl with | [_, _], _ => rfl
  have F33 := fun_mk (st := s_chk) l33 c33 k33
  have b33 := F33.binds (ps := ["self", "thing"]) fun _ _ _ _ _ _ us hl => match us, hl with | [_, _], _ => rfl
  have N : Nm mg := ⟨PySem.W.mg_none_of X G z0, PySem.W.mg_none_of X G z1, PySem.W.mg_none_of X G z2, PySem.W.mg_none_of X G z3, PySem.W.mg_none_of X G z4, PySem.W.mg_none_of X G z5, PySem.W.mg_none_of X G z6, PySem.W.mg_none_of X G z7, PySem.W.mg_none_of X G z8, PySem.W.mg_none_of X G z9, PySem.W.mg_none_of X G z10⟩
  have T : Txt K mg C := ⟨⟨pg, hd, po, sa⟩, na0, na1, ⟨_, PySem.W.mg_of X G co0⟩, ⟨_, PySem.W.mg_of X G co1⟩⟩
  have KT : Kit K := ⟨ki0, ki1, ki2⟩
  have EN : ExcR K mg "NoThing" CN := ⟨PySem.W.mg_of X G nN, xN6⟩
  have EP : ExcR K mg "BadPlan" CP := ⟨PySem.W.mg_of X G nP, xP6⟩
  refine ⟨PySem.W.fnOf "law" "law" (defArgs s_law) (defBody s_law) (defScope s_law) .none kV26 dc26 pm26 an26 cd26 ct26, fun s v => .of_eq rfl, ⟨hPK, cc, hcd⟩, fun base _ _ BM => ?_⟩
  have TB : TabK K mg base cc Pt := ⟨hcd, BM⟩
  have Zcheck_lengths : DefOk l.prog w K mg base CX0 "check_lengths" 1 _ (spLengths K) := ⟨_, _, ok_lengths F1 N T, b1, k1, PySem.W.mg_of X G a1⟩
  have Zcheck_elders : DefOk l.prog w K mg base CX0 "check_elders" 1 _ spChkE := ⟨_, _, ok_chkE F2 N, b2, k2, PySem.W.mg_of X G a2⟩
  have Zcheck_worths : DefOk l.prog w K mg base CX0 "check_worths" 1 _ (spChkW K) := ⟨_, _, ok_chkW F3 T, b3, k3, PySem.W.mg_of X G a3⟩
  have ZTree : ClsOk l.prog w K mg base CX0 "Tree" C 2 _ (spInit C) := ⟨_, _, ok_init F27 N T Zcheck_lengths Zcheck_elders Zcheck_worths, b27, ⟨mk, a27, i27, kc⟩, PySem.W.mg_of X G aC⟩
  have Yelders : MethOk l.prog w K mg base CX0 C "elders" 1 _ (spGetE C) := ⟨T.cl, _, _, ok_getE F28 N T, b28, ⟨a28, i28, k28⟩⟩
  have Melders := MethOk.lift (CX := (CX1 l.prog w)) Yelders
  have Yworths : MethOk l.prog w K mg base CX0 C "worths" 1 _ (spGetW C) := ⟨T.cl, _, _, ok_getW F29 N T, b29, ⟨a29, i29, k29⟩⟩
  have Mworths := MethOk.lift (CX := (CX1 l.prog w)) Yworths
  have Ythings : MethOk l.prog w K mg base CX0 C "things" 1 _ (spThings C) := ⟨T.cl, _, _, ok_things F30 N T, b30, ⟨a30, i30, k30⟩⟩
  have Mthings := MethOk.lift (CX := (CX1 l.prog w)) Ythings
  have Ycheck_thing : MethOk l.prog w K mg base CX0 C "check_thing" 2 _ (spChk C) := ⟨T.cl, _, _, ok_chk F33 Ythings, b33, ⟨a33, i33, k33⟩⟩
  have Mcheck_thing : MethOk l.prog w K mg base (CX1 l.prog w) C "check_thing" 2 _ (spChkX C CN) := ⟨T.cl, _, _, ok_chkX F33 EN Mthings, b33, ⟨a33, i33, k33⟩⟩
  have Ydepth : MethOk l.prog w K mg base CX0 C "depth" 3 _ (spDepth C) := ⟨T.cl, _, _, ok_depth F31 T Ycheck_thing, b31, ⟨a31, i31, k31⟩⟩
  have Ybelow : MethOk l.prog w K mg base CX0 C "below" 3 _ (spBelow C) := ⟨T.cl, _, _, ok_below F32 N T Ycheck_thing Ythings, b32, ⟨a32, i32, k32⟩⟩
  have Dcheck_step : DefOk l.prog w K mg base (CX1 l.prog w) "check_step" 3 _ (spStep K C CN CP) := ⟨_, _, ok_step F4 EP Mcheck_thing, b4, k4, PySem.W.mg_of X G a4⟩
  have Zcatching : DefOk l.prog w K mg base CX0 "catching" 1 _ spCatch := ⟨_, _, ok_catch F5 N, b5, k5, PySem.W.mg_of X G a5⟩
  have Dcatching := DefOk.lift (CX := (CX1 l.prog w)) Zcatching
  have Dburnt : DefOk l.prog w K mg base (CX1 l.prog w) "burnt" 4 _ (spBurntX C CN CP) := ⟨_, _, ok_burnt F6 N Melders Mthings Dcheck_step Dcatching, b6, k6, PySem.W.mg_of X G a6⟩
  have Zsaved : DefOk l.prog w K mg base CX0 "saved" 5 _ (spSaved C) := ⟨_, _, ok_savedC F7 N Mworths Dburnt, b7, k7, PySem.W.mg_of X G a7⟩
  have Zthings_at : DefOk l.prog w K mg base CX0 "things_at" 4 _ (spAt C) := ⟨_, _, ok_at F8 N Ythings Ydepth, b8, k8, PySem.W.mg_of X G a8⟩
  have Zchoices : DefOk l.prog w K mg base CX0 "choices" 5 _ (spChoices C) := ⟨_, _, ok_choices F9 N Ybelow Zthings_at, b9, k9, PySem.W.mg_of X G a9⟩
  have Zbest_from : DefOk l.prog w K mg base CX0 "best_from" 21 _ (spBF C Pt 14) := ⟨_, _, ok_bf F10 b10 k10 (PySem.W.mg_of X G a10) hcc N TB Zchoices Zsaved 14, b10, k10, PySem.W.mg_of X G a10⟩
  have Zgreatest : DefOk l.prog w K mg base CX0 "greatest" 22 _ (spGreatest C Pt) := ⟨_, _, ok_great F11 Zbest_from, b11, k11, PySem.W.mg_of X G a11⟩
  have Z_law_cell_at : DefOk l.prog w K mg base CX0 "_law_cell_at" 1 _ (spCell K) := ⟨_, _, ok_cell F12 N, b12, k12, PySem.W.mg_of X G a12⟩
  have Z_law_draw : DefOk l.prog w K mg base CX0 "_law_draw" 2 _ (spDraw K) := ⟨_, _, ok_draw F13 Z_law_cell_at, b13, k13, PySem.W.mg_of X G a13⟩
  have Z_law_whole : DefOk l.prog w K mg base CX0 "_law_whole" 1 _ spWhole := ⟨_, _, ok_whole F14 N KT, b14, k14, PySem.W.mg_of X G a14⟩
  have Z_law_elders : DefOk l.prog w K mg base CX0 "_law_elders" 3 _ (spElders K) := ⟨_, _, ok_elders F15 N Z_law_draw, b15, k15, PySem.W.mg_of X G a15⟩
  have Z_law_tree : DefOk l.prog w K mg base CX0 "_law_tree" 4 _ (spTree K) := ⟨_, _, ok_tree F16 N Z_law_draw Z_law_elders, b16, k16, PySem.W.mg_of X G a16⟩
  have Z_law_depth : DefOk l.prog w K mg base CX0 "_law_depth" 1 _ (spDepthL K) := ⟨_, _, ok_depthL F17 , b17, k17, PySem.W.mg_of X G a17⟩
  have Z_law_below : DefOk l.prog w K mg base CX0 "_law_below" 1 _ (spBelowL K) := ⟨_, _, ok_belowL F18 N, b18, k18, PySem.W.mg_of X G a18⟩
  have Z_law_worth : DefOk l.prog w K mg base CX0 "_law_worth" 2 _ (spWorthL K) := ⟨_, _, ok_worthL F19 N Z_law_below, b19, k19, PySem.W.mg_of X G a19⟩
  have Z_law_fire : DefOk l.prog w K mg base CX0 "_law_fire" 1 _ (spFire K) := ⟨_, _, ok_fire F20 N, b20, k20, PySem.W.mg_of X G a20⟩
  have Z_law_saved : DefOk l.prog w K mg base CX0 "_law_saved" 2 _ (spSavedL K) := ⟨_, _, ok_savedL F21 N Z_law_fire, b21, k21, PySem.W.mg_of X G a21⟩
  have Z_law_free : DefOk l.prog w K mg base CX0 "_law_free" 2 _ (spFree K) := ⟨_, _, ok_free F22 N Z_law_depth, b22, k22, PySem.W.mg_of X G a22⟩
  have Z_law_level_plan : DefOk l.prog w K mg base CX0 "_law_level_plan" 3 _ (spLevel K) := ⟨_, _, ok_level F23 N Z_law_free Z_law_below, b23, k23, PySem.W.mg_of X G a23⟩
  have Z_law_best : DefOk l.prog w K mg base CX0 "_law_best" 17 _ (spBest K 14) := ⟨_, _, ok_best F24 b24 k24 (PySem.W.mg_of X G a24) N Z_law_free Z_law_below Z_law_worth 14, b24, k24, PySem.W.mg_of X G a24⟩
  have Z_law_numbers : DefOk l.prog w K mg base CX0 "_law_numbers" 2 _ spNumbers := ⟨_, _, ok_numbers F25 N KT Z_law_whole, b25, k25, PySem.W.mg_of X G a25⟩
  exact ok_law F26 N ki3 Z_law_tree ZTree Zgreatest Zsaved Z_law_whole Z_law_numbers Z_law_level_plan Z_law_saved Z_law_best
theorem walk {l : PySem.W.OpenLaw} {q : Program} {loose : List Str} {XP : (Str → Option Value) → Heap → Prop} {YP : World → Heap → Prop} {d : DefRec} {K : Params → PySem.W.Frag} {Pt : Addr} (hn : l.most = some 63) (hdf : d.params.defaults = [])
    (hY : ∀ (w : World) (h : Heap), YP w h → (K w.params).In h ∧ h.get? Pt = some (PySem.W.tabObj #[]))
    (F : ∀ (w : World) (mg : Str → Option Value) (fa : Addr) (h : Heap), (K w.params).In h → h.Ns mainGlobals mg → mg d.name = some (.ref fa) →
      ∃ fd : FuncData, (∀ (s : Shared) (u : Value), BindsTo s fd ⟨[u], []⟩ [("script", u)]) ∧ ((K w.params).lookup Pt = none ∧ ∃ c, PySem.W.codeHdIn (K w.params) c Pt = true) ∧ ∀ base : Heap, (K w.params).In base → base.Ns mainGlobals mg → BMain mg base → FnOk l.prog w (K w.params) mg base CX0 23 fa fd ["script"] (spLawT (K w.params) Pt)) :
    PySem.W.WalkO q loose XP YP l.row.toRowW d [] (fun f vs => PySem.call f vs) :=
  L2.walk_ofT (n := 63) (k := 23) (x := "script") (CX := fun w => CX0) (sp := fun w => spLawT (K w.params) Pt) hn (by decide) hdf ⟨rfl, by decide, by decide⟩ hY F (fun _ _ a ns hl ht hS => ⟨a, ns, rfl, hS, hl, ht, fun _ => rfl⟩) fun _ _ _ _ _ z => z
end FT
open PySem PySem.W PyProof.Rows
set_option maxRecDepth 100000 in
set_option maxHeartbeats 0 in
theorem PySem.Challenge.cw_firetree_k04_whole_greatest_holds : PySem.Challenge.rw_firetree_k04_whole_greatest.Holds := by
  w_on; o_law; k_head; (case hw => w_witness2)
  k_fill
  refine FT.walk (l := PySem.Challenge.rw_firetree_k04_whole_greatest) rfl rfl (fun w h Y => ⟨PySem.W.km_in_of Y, PySem.W.km_tabs_of Y _ (.head _)⟩) ?F
  case F =>
    intro w mg fa h KX G hmg
    refine' FT.all_mk KX G hmg ?aC ?a1 ?l1 ?c1 ?k1 ?a2 ?l2 ?c2 ?k2 ?a3 ?l3 ?c3 ?k3 ?a4 ?l4 ?c4 ?k4 ?a5 ?l5 ?c5 ?k5 ?a6 ?l6 ?c6 ?k6 ?a7 ?l7 ?c7 ?k7 ?a8 ?l8 ?c8 ?k8 ?a9 ?l9 ?c9 ?k9 ?a10 ?l10 ?c10 ?k10 ?a11 ?l11 ?c11 ?k11 ?a12 ?l12 ?c12 ?k12 ?a13 ?l13 ?c13 ?k13 ?a14 ?l14 ?c14 ?k14 ?a15 ?l15 ?c15 ?k15 ?a16 ?l16 ?c16 ?k16 ?a17 ?l17 ?c17 ?k17 ?a18 ?l18 ?c18 ?k18 ?a19 ?l19 ?c19 ?k19 ?a20 ?l20 ?c20 ?k20 ?a21 ?l21 ?c21 ?k21 ?a22 ?l22 ?c22 ?k22 ?a23 ?l23 ?c23 ?k23 ?a24 ?l24 ?c24 ?k24 ?a25 ?l25 ?c25 ?k25 ?a26 ?l26 ?c26 ?k26 ?a27 ?i27 ?l27 ?c27 ?k27 ?a28 ?i28 ?l28 ?c28 ?k28 ?a29 ?i29 ?l29 ?c29 ?k29 ?a30 ?i30 ?l30 ?c30 ?k30 ?a31 ?i31 ?l31 ?c31 ?k31 ?a32 ?i32 ?l32 ?c32 ?k32 ?a33 ?i33 ?l33 ?c33 ?k33 ?pg ?hd ?po ?sa ?mk ?kc ?na0 ?na1 ?co0 ?co1 ?z0 ?z1 ?z2 ?z3 ?z4 ?z5 ?z6 ?z7 ?z8 ?z9 ?z10 ?ki0 ?ki1 ?ki2 ?ki3 ?nN ?nP ?xN6 ?xP6 ?hcc ?hcd ?hPK
    (case aC => k_is)
    (case a1 => k_is)
    (case l1 => k_is)
    (case c1 => k_is)
    (case k1 => k_is)
    (case a2 => k_is)
    (case l2 => k_is)
    (case c2 => k_is)
    (case k2 => k_is)
    (case a3 => k_is)
    (case l3 => k_is)
    (case c3 => k_is)
    (case k3 => k_is)
    (case a4 => k_is)
    (case l4 => k_is)
    (case c4 => k_is)
    (case k4 => k_is)
    (case a5 => k_is)
    (case l5 => k_is)
    (case c5 => k_is)
    (case k5 => k_is)
    (case a6 => k_is)
    (case l6 => k_is)
    (case c6 => k_is)
    (case k6 => k_is)
    (case a7 => k_is)
    (case l7 => k_is)
    (case c7 => k_is)
    (case k7 => k_is)
    (case a8 => k_is)
    (case l8 => k_is)
    (case c8 => k_is)
    (case k8 => k_is)
    (case a9 => k_is)
    (case l9 => k_is)
    (case c9 => k_is)
    (case k9 => k_is)
    (case a10 => k_is)
    (case l10 => k_is)
    (case c10 => k_is)
    (case k10 => k_is)
    (case a11 => k_is)
    (case l11 => k_is)
    (case c11 => k_is)
    (case k11 => k_is)
    (case a12 => k_is)
    (case l12 => k_is)
    (case c12 => k_is)
    (case k12 => k_is)
    (case a13 => k_is)
    (case l13 => k_is)
    (case c13 => k_is)
    (case k13 => k_is)
    (case a14 => k_is)
    (case l14 => k_is)
    (case c14 => k_is)
    (case k14 => k_is)
    (case a15 => k_is)
    (case l15 => k_is)
    (case c15 => k_is)
    (case k15 => k_is)
    (case a16 => k_is)
    (case l16 => k_is)
    (case c16 => k_is)
    (case k16 => k_is)
    (case a17 => k_is)
    (case l17 => k_is)
    (case c17 => k_is)
    (case k17 => k_is)
    (case a18 => k_is)
    (case l18 => k_is)
    (case c18 => k_is)
    (case k18 => k_is)
    (case a19 => k_is)
    (case l19 => k_is)
    (case c19 => k_is)
    (case k19 => k_is)
    (case a20 => k_is)
    (case l20 => k_is)
    (case c20 => k_is)
    (case k20 => k_is)
    (case a21 => k_is)
    (case l21 => k_is)
    (case c21 => k_is)
    (case k21 => k_is)
    (case a22 => k_is)
    (case l22 => k_is)
    (case c22 => k_is)
    (case k22 => k_is)
    (case a23 => k_is)
    (case l23 => k_is)
    (case c23 => k_is)
    (case k23 => k_is)
    (case a24 => k_is)
    (case l24 => k_is)
    (case c24 => k_is)
    (case k24 => k_is)
    (case a25 => k_is)
    (case l25 => k_is)
    (case c25 => k_is)
    (case k25 => k_is)
    (case a26 => k_is)
    (case l26 => k_is)
    (case c26 => k_is)
    (case k26 => k_is)
    (case a27 => k_is)
    (case i27 => k_is)
    (case l27 => k_is)
    (case c27 => k_is)
    (case k27 => k_is)
    (case a28 => k_is)
    (case i28 => k_is)
    (case l28 => k_is)
    (case c28 => k_is)
    (case k28 => k_is)
    (case a29 => k_is)
    (case i29 => k_is)
    (case l29 => k_is)
    (case c29 => k_is)
    (case k29 => k_is)
    (case a30 => k_is)
    (case i30 => k_is)
    (case l30 => k_is)
    (case c30 => k_is)
    (case k30 => k_is)
    (case a31 => k_is)
    (case i31 => k_is)
    (case l31 => k_is)
    (case c31 => k_is)
    (case k31 => k_is)
    (case a32 => k_is)
    (case i32 => k_is)
    (case l32 => k_is)
    (case c32 => k_is)
    (case k32 => k_is)
    (case a33 => k_is)
    (case i33 => k_is)
    (case l33 => k_is)
    (case c33 => k_is)
    (case k33 => k_is)
    (case pg => k_is)
    (case hd => k_is)
    (case po => k_is)
    (case sa => k_is)
    (case mk => k_is)
    (case kc => k_is)
    (case na0 => k_is)
    (case na1 => k_is)
    (case co0 => k_is)
    (case co1 => k_is)
    (case z0 => k_is)
    (case z1 => k_is)
    (case z2 => k_is)
    (case z3 => k_is)
    (case z4 => k_is)
    (case z5 => k_is)
    (case z6 => k_is)
    (case z7 => k_is)
    (case z8 => k_is)
    (case z9 => k_is)
    (case z10 => k_is)
    (case ki0 => first | rfl | k_is | kit_is)
    (case ki1 => first | rfl | k_is | kit_is)
    (case ki2 => first | rfl | k_is | kit_is)
    (case ki3 => first | rfl | k_is | kit_is)
    (case nN => k_is)
    (case nP => k_is)
    (case xN6 => k_exc)
    (case xP6 => k_exc)
    (case hcc => rfl)
    (case hcd => kernel_rfl)
    (case hPK => first | kernel_rfl | k_is)
#print axioms PySem.Challenge.cw_firetree_k04_whole_greatest_holds
