import PyProof.Rows.All
import Wide.All
import OpenK.AllK
import Wide.FinOn
import Lean
import PyProof.EqAt
import PyProof.EqKinds
import PyProof.TupleCall
import PySem.Challenge.RW_sidechain_k13_boards_read_or_refused
set_option Elab.async false
set_option linter.all false
set_option maxRecDepth 100000
namespace L2
open PySem PySem.Spec PyProof.Rows

/-- a key: an int or a str -/
abbrev Key := Sum Int Str
def keyIs : Key → Value → Bool
  | .inl k, v => Value.isInt k v
  | .inr x, v => Value.isStrOf x v
def keyH (w : World) : Key → Int
  | .inl k => hashInt k
  | .inr x => hashStr w x
theorem keyIs_shape : ∀ {k : Key} {v : Value}, keyIs k v = true → (∃ i t, k = Sum.inl i ∧ v = Value.int i t) ∨ (∃ x t, k = Sum.inr x ∧ v = Value.str x t)
  | .inl i, v, h => by
    obtain ⟨t, e⟩ := Value.isInt_shape (k := i) (v := v) h
    exact .inl ⟨i, t, rfl, e⟩
  | .inr x, v, h => by
    obtain ⟨t, e⟩ := Value.isStrOf_shape (x := x) (v := v) h
    exact .inr ⟨x, t, rfl, e⟩
theorem keyIs_int (i : Int) (t : Tok) : keyIs (.inl i) (.int i t) = true := by simp [keyIs, Value.isInt]
theorem keyIs_str (x : Str) (t : Tok) : keyIs (.inr x) (.str x t) = true := by simp [keyIs, Value.isStrOf]
theorem key_ll (a b : Int) : decide ((Sum.inl a : Key) = Sum.inl b) = (a == b) := by
  by_cases e : a = b
  · subst e; simp
  · have h : ¬ (Sum.inl a : Key) = Sum.inl b := fun q => e (Sum.inl.inj q)
    rw [decide_eq_false h]
    exact (beq_eq_false_iff_ne.mpr e).symm
theorem key_rr (a b : Str) : decide ((Sum.inr a : Key) = Sum.inr b) = decide (a = b) := by
  by_cases e : a = b
  · subst e; simp
  · have h : ¬ (Sum.inr a : Key) = Sum.inr b := fun q => e (Sum.inr.inj q)
    rw [decide_eq_false h, decide_eq_false e]
theorem key_lr (a : Int) (b : Str) : decide ((Sum.inl a : Key) = Sum.inr b) = false := decide_eq_false (fun q => nomatch q)
theorem key_rl (a : Str) (b : Int) : decide ((Sum.inr a : Key) = Sum.inl b) = false := decide_eq_false (fun q => nomatch q)
def mixKind (prog : Program) (w : World) : PySem.KeyKind prog w Key where
  is := keyIs
  hash := keyH w
  inj := fun v a b ha hb => by
    rcases keyIs_shape ha with ⟨i, t, rfl, rfl⟩ | ⟨x, t, rfl, rfl⟩
    · rcases keyIs_shape hb with ⟨j, u, rfl, e⟩ | ⟨y, u, rfl, e⟩
      · injection e with e1 _; rw [e1]
      · exact nomatch e
    · rcases keyIs_shape hb with ⟨j, u, rfl, e⟩ | ⟨y, u, rfl, e⟩
      · exact nomatch e
      · injection e with e1 _; rw [e1]
  byValue := fun k v h => by
    rcases keyIs_shape h with ⟨i, t, rfl, rfl⟩ | ⟨x, t, rfl, rfl⟩ <;> rfl
  pyHash := fun hv h => by
    rcases keyIs_shape hv with ⟨i, t, rfl, rfl⟩ | ⟨x, t, rfl, rfl⟩
    · exact wpAny_pyHash_int h
    · exact wpAny_pyHash_str h
  eqBool := fun hu hv h => by
    rcases keyIs_shape hu with ⟨i, t, rfl, rfl⟩ | ⟨x, t, rfl, rfl⟩
    · rcases keyIs_shape hv with ⟨j, u, rfl, rfl⟩ | ⟨y, u, rfl, rfl⟩
      · rw [key_ll] at h; exact wpAny_eqBool_int h
      · rw [key_lr] at h; exact SeqAt.EqAt.int_str i t y u _ _ _ _ h
    · rcases keyIs_shape hv with ⟨j, u, rfl, rfl⟩ | ⟨y, u, rfl, rfl⟩
      · rw [key_rl] at h; exact SeqAt.EqAt.str_int x t j u _ _ _ _ h
      · rw [key_rr] at h; exact wpAny_eqBool_str h
  «strs» := fun k x t v h => by
    rcases keyIs_shape h with ⟨i, u, rfl, e⟩ | ⟨y, u, rfl, e⟩
    · exact nomatch e
    · injection e with e1 _
      subst e1
      cases v <;> rfl
theorem mixKind_int (prog : Program) (w : World) (i : Int) (t : Tok) : (mixKind prog w).is (.inl i) (.int i t) = true := keyIs_int i t
theorem mixKind_str (prog : Program) (w : World) (x : Str) (t : Tok) : (mixKind prog w).is (.inr x) (.str x t) = true := keyIs_str x t
end L2

namespace L2
open PySem PySem.Spec PyProof.Rows

/-- a value, without the heap -/
inductive V where
  | non | bl (b : Bool) | int (i : Int) | str (x : Str) | byt (b : Array UInt8) | flt (b : UInt64) | ref (a : Addr) | ty (n : String)
  deriving DecidableEq
def RelV : V → Value → Prop
  | .non, u => u = Value.none
  | .bl b, u => u = Value.bool b
  | .int i, u => ∃ t, u = Value.int i t
  | .str x, u => ∃ t, u = Value.str x t
  | .byt b, u => ∃ t, u = Value.bytes b t
  | .flt b, u => ∃ t, u = Value.float b t
  | .ref a, u => u = Value.ref a
  | .ty n, u => u = Value.type n
abbrev Vals : List V → List Value → Prop := Paired RelV
theorem Vals.length {xs : List V} {us : List Value} (r : Vals xs us) : xs.length = us.length := Paired.length r
theorem Vals.get : ∀ {xs : List V} {us : List Value} {i : Nat} {x : V}, Vals xs us → xs[i]? = some x → ∃ u, us[i]? = some u ∧ RelV x u
  | _, _, _, _, .nil, e => by simp at e
  | _, _, 0, _, .cons r _, e => by simp at e; subst e; exact ⟨_, rfl, r⟩
  | _, _, i + 1, x, .cons _ t, e => by
    obtain ⟨u, h1, h2⟩ := Vals.get (i := i) (x := x) t (by simpa using e)
    exact ⟨u, by simpa using h1, h2⟩
theorem Vals.set {x : V} {u : Value} (r : RelV x u) : ∀ {xs : List V} {us : List Value} (i : Nat), Vals xs us → Vals (xs.set i x) (us.set i u)
  | _, _, _, .nil => .nil
  | _, _, 0, .cons _ t => .cons r t
  | _, _, i + 1, .cons q t => .cons q (Vals.set r i t)
theorem Vals.append : ∀ {xs ys : List V} {us ws : List Value}, Vals xs us → Vals ys ws → Vals (xs ++ ys) (us ++ ws)
  | _, _, _, _, .nil, s => s
  | _, _, _, _, .cons r t, s => .cons r (Vals.append t s)
theorem Vals.take : ∀ {xs : List V} {us : List Value} (n : Nat), Vals xs us → Vals (xs.take n) (us.take n)
  | _, _, 0, _ => .nil
  | _, _, _ + 1, .nil => .nil
  | _, _, n + 1, .cons r t => .cons r (Vals.take n t)
theorem Vals.none_of : ∀ {xs : List V} {us : List Value} {i : Nat}, Vals xs us → xs[i]? = none → us[i]? = none := fun {xs us i} r e => by
  have h1 := r.length
  have h2 : xs.length ≤ i := List.getElem?_eq_none_iff.mp e
  exact List.getElem?_eq_none_iff.mpr (by omega)
def RelO : Option V → Option Value → Prop
  | some v, some u => RelV v u
  | none, none => True
  | _, _ => False
def KV {κ : Type} : List (κ × V) → List (κ × Value) → Prop := Paired fun (p : κ × V) (q : κ × Value) => p.1 = q.1 ∧ RelV p.2 q.2
/-- a key of a dict (00_mix): an int or a text -/
def kV : Key → V
  | .inl i => .int i
  | .inr x => .str x
/-- what stands at a tracked address -/
inductive HO where
  /-- a list -/
  | lst (xs : List V)
  /-- a tuple (never changes) -/
  | tup (xs : List V)
  /-- a dict whose keys are ints and texts; one whose keys are tuples of ints and texts (the empty one is both) -/
  | dK (kvs : List (Key × V)) | dT (kvs : List (List Key × V))
  /-- a set of ints: its members, its size -/
  | set (S : Int → Bool) (n : Nat)
  /-- an instance of the class at C, its dict at dx, its attributes -/
  | ins (C dx : Addr) (fs : List (Str × V))
  /-- the dict of the instance at x -/
  | own (x : Addr)
  /-- the dict of an exception -/
  | xd (fs : List (Str × V))
  /-- a bound method, f of x -/
  | met (f x : Addr)
  /-- a range object lo, lo + 1, .. below hi -/
  | rng (lo hi : Int)
  /-- a thing that is known to the object (the script; a dict while a loop walks it): read, never written while it is so -/
  | frz (o : Obj) (u : HO)
  /-- a code object's table -/
  | tbl (ps : Array Value)
  /-- any other thing, by what is true of its one object (a def of one's own: SetO a S n := HO.ext fun h => ..) -/
  | ext (φ : Heap → Prop)
abbrev Hp := Addr → Option HO
def upd (H : Hp) (a : Addr) (o : HO) : Hp := fun b => if b = a then some o else H b
theorem upd_same {H : Hp} {a : Addr} {o : HO} : upd H a o a = some o := by unfold upd; rw [if_pos rfl]
theorem upd_ne {H : Hp} {a b : Addr} {o : HO} (h : b ≠ a) : upd H a o b = H b := by unfold upd; rw [if_neg h]
theorem upd_upd {H : Hp} {a : Addr} {o u : HO} : upd (upd H a o) a u = upd H a u := by
  funext b; unfold upd; split <;> rfl
/-- two objects of different content stand apart -/
theorem ne_of {H : Hp} {a b : Addr} {o u : HO} (h : H a = some o) (h' : H b = some u) (d : o ≠ u) : a ≠ b := by
  intro e; subst e; rw [h] at h'; exact d (Option.some.inj h')
theorem ne_of_none {H : Hp} {a b : Addr} {o : HO} (h : H a = some o) (h' : H b = none) : a ≠ b := by
  intro e; subst e; rw [h] at h'; cases h'
section
variable (P : Program) (w : World)
def ObjOk (H : Hp) (h : Heap) (a : Addr) : HO → Prop
  | .lst xs => xs.length ≤ sizeLine ∧ ∃ (its : List Value) (n : Nat), Vals xs its ∧ h.get? a = some { cls := .type "list", data := .seq its.toArray n }
  | .tup xs => xs.length ≤ sizeLine ∧ ∃ its : List Value, Vals xs its ∧ IsTup h a its.toArray
  | .dK kvs => kvs.length ≤ sizeLine ∧ (a == sysModules) = false ∧ ∃ vs, KV kvs vs ∧ h.DictOf (mixKind P w) a vs
  | .dT kvs => kvs.length ≤ sizeLine ∧ (a == sysModules) = false ∧ ∃ xs : List (List Key × Addr × Value),
      Paired (fun (p : List Key × V) (q : List Key × Addr × Value) => p.1 = q.1 ∧ H q.2.1 = some (.tup (p.1.map kV)) ∧ RelV p.2 q.2.2) kvs xs ∧
      ∃ o es ep, h.get? a = some o ∧ o.ExactDict ∧ o.data = .dict es ep ∧ es.toList = xs.map (entryOfKey (tupleKind (mixKind P w))) ∧ (xs.map (·.1)).Nodup
  | .set S n => h.SetOf (intKind P w) a S n
  | .ins C dx fs => H dx = some (.own a) ∧ fs.length ≤ 1000 ∧ dx ≠ a ∧ h.get? a = some (PySem.W.instObj C dx) ∧
      ∃ mA, h.Ns1 dx mA ∧ (∀ f, RelO (fs.lookup f) (mA f)) ∧ PySem.Within mA (fs.map (·.1))
  | .own _ => ∃ o, h.get? a = some o
  | .xd fs => ∃ mA, h.Ns1 a mA ∧ ∀ f, RelO (fs.lookup f) (mA f)
  | .rng lo hi => ∃ t u v, h.get? a = some { cls := .type "range", data := .fields #[.int lo t, .int hi u, .int 1 v] }
  | .frz o u => h.get? a = some o ∧ ObjOk H h a u
  | .tbl ps => h.get? a = some { cls := .none, data := .fields ps }
  | .met f x => h.get? a = some (PySem.W.methodObj (.ref f) (.ref x))
  | .ext φ => φ h ∧ (∃ o, h.get? a = some o) ∧ ∀ h1 h2 : Heap, φ h1 → (∀ o, h1.get? a = some o → h2.get? a = some o) → φ h2
/-- the abstract heap is held -/
def HOk (H : Hp) (h : Heap) : Prop := ∀ a o, H a = some o → ObjOk P w H h a o
end

section
variable {P : Program} {w : World} {H H' : Hp} {h h' : Heap} {a : Addr} {o : HO}
theorem ObjOk.lt (x : ObjOk P w H h a o) : a < h.objs.size := by
  cases o with
  | lst xs => obtain ⟨_, _, _, _, e⟩ := x; exact Heap.lt_size e
  | tup xs => obtain ⟨_, _, _, p⟩ := x; exact p.lt
  | dK kvs => obtain ⟨_, _, _, _, o, _, _, e, _⟩ := x; exact Heap.lt_size e
  | dT kvs => obtain ⟨_, _, _, _, o, _, _, e, _⟩ := x; exact Heap.lt_size e
  | set S n => obtain ⟨o, _, _, _, e, _⟩ := x; exact Heap.lt_size e
  | ins C dx fs => obtain ⟨_, _, _, e, _⟩ := x; exact Heap.lt_size e
  | own y => obtain ⟨_, e⟩ := x; exact Heap.lt_size e
  | xd fs => obtain ⟨_, ⟨_, _, _, e, _⟩, _⟩ := x; exact Heap.lt_size e
  | rng lo hi => obtain ⟨_, _, _, e⟩ := x; exact Heap.lt_size e
  | frz ob u => obtain ⟨e, _⟩ := x; exact Heap.lt_size e
  | tbl ps => exact Heap.lt_size (show h.get? a = some _ from x)
  | met f y => exact Heap.lt_size (show h.get? a = some _ from x)
  | ext φ => obtain ⟨_, ⟨_, e⟩, _⟩ := x; exact Heap.lt_size e
theorem Paired.mapP {α β : Type} {F G : α → β → Prop} : ∀ {l₁ : List α} {l₂ : List β}, Paired F l₁ l₂ → (∀ a b, F a b → G a b) → Paired G l₁ l₂
  | _, _, .nil, _ => .nil
  | _, _, .cons r t, f => .cons (f _ _ r) (Paired.mapP t f)
/-- what an object's description leans on: its own object, its own dict, the tuples -/
theorem ObjOk.stay (x : ObjOk P w H h a o) (k : ∀ b u, (b = a ∨ H b = some (.own a)) → h.get? b = some u → h'.get? b = some u)
    (ho : ∀ b, H b = some (.own a) → H' b = some (.own a)) (ht : ∀ b xs, H b = some (.tup xs) → H' b = some (.tup xs)) : ObjOk P w H' h' a o := by
  induction o with
  | lst xs => obtain ⟨z, its, n, r, e⟩ := x; exact ⟨z, its, n, r, k _ _ (.inl rfl) e⟩
  | tup xs => obtain ⟨z, its, r, ob, e, c⟩ := x; exact ⟨z, its, r, ob, k _ _ (.inl rfl) e, c⟩
  | dK kvs => obtain ⟨z, y, vs, r, ob, es, ep, e, c⟩ := x; exact ⟨z, y, vs, r, ob, es, ep, k _ _ (.inl rfl) e, c⟩
  | dT kvs =>
    obtain ⟨z, y, xs, r, ob, es, ep, e, c⟩ := x
    exact ⟨z, y, xs, Paired.mapP r fun p q z => ⟨z.1, ht _ _ z.2.1, z.2.2⟩, ob, es, ep, k _ _ (.inl rfl) e, c⟩
  | set S n => obtain ⟨ob, es, ep, t, e, c⟩ := x; exact ⟨ob, es, ep, t, k _ _ (.inl rfl) e, c⟩
  | ins C dx fs =>
    obtain ⟨d, z, ne, e, mA, ⟨od, es, ep, e2, c⟩, r⟩ := x
    exact ⟨ho _ d, z, ne, k _ _ (.inl rfl) e, mA, ⟨od, es, ep, k _ _ (.inr d) e2, c⟩, r⟩
  | own y => obtain ⟨ob, e⟩ := x; exact ⟨ob, k _ _ (.inl rfl) e⟩
  | xd fs => obtain ⟨mA, ⟨od, es, ep, e, c⟩, r⟩ := x; exact ⟨mA, ⟨od, es, ep, k _ _ (.inl rfl) e, c⟩, r⟩
  | rng lo hi => obtain ⟨t, u, v, e⟩ := x; exact ⟨t, u, v, k _ _ (.inl rfl) e⟩
  | frz ob u ih => obtain ⟨e, q⟩ := x; exact ⟨k _ _ (.inl rfl) e, ih q⟩
  | tbl ps =>
    have e : h.get? a = some { cls := .none, data := .fields ps } := x
    show h'.get? a = some { cls := .none, data := .fields ps }
    exact k a _ (.inl rfl) e
  | met f y =>
    have e : h.get? a = some (PySem.W.methodObj (.ref f) (.ref y)) := x
    show h'.get? a = some (PySem.W.methodObj (.ref f) (.ref y))
    exact k a _ (.inl rfl) e
  | ext φ => obtain ⟨p, ⟨o, e⟩, st⟩ := x; exact ⟨st _ _ p fun o q => k _ _ (.inl rfl) q, ⟨o, k _ _ (.inl rfl) e⟩, st⟩
theorem HOk.lt (x : HOk P w H h) (e : H a = some o) : a < h.objs.size := (x a o e).lt
theorem HOk.fresh (x : HOk P w H h) (e : h.objs.size ≤ a) : H a = none := by
  cases q : H a with
  | none => rfl
  | some u => exact absurd (Nat.lt_of_lt_of_le (x.lt q) e) (Nat.lt_irrefl _)
/-- every object of the heap is kept -/
theorem HOk.kept (x : HOk P w H h) (k : ∀ b u, h.get? b = some u → h'.get? b = some u) : HOk P w H h' := fun a o e =>
  (x a o e).stay (fun b u _ q => k b u q) (fun _ q => q) fun _ _ q => q
/-- a new object is laid and tracked -/
theorem HOk.laid (x : HOk P w H h) (k : ∀ b u, h.get? b = some u → h'.get? b = some u) (hp : h.objs.size ≤ a) (new : ObjOk P w (upd H a o) h' a o) : HOk P w (upd H a o) h' := fun b u e => by
  have hn := x.fresh hp
  by_cases hb : b = a
  · subst hb; rw [upd_same] at e; cases e; exact new
  · rw [upd_ne hb] at e
    exact (x b u e).stay (fun c v _ q => k c v q) (fun c q => by rw [upd_ne (ne_of_none q hn)]; exact q) fun c xs q => by rw [upd_ne (ne_of_none q hn)]; exact q
end

/-- what may be read as u: it is u, or a known u -/
def Rd (H : Hp) (a : Addr) (u : HO) : Prop := H a = some u ∨ ∃ o, H a = some (.frz o u)
theorem Rd.of {H : Hp} {a : Addr} {u : HO} (h : H a = some u) : Rd H a u := .inl h
theorem Rd.ok {P : Program} {w : World} {H : Hp} {h : Heap} {a : Addr} {u : HO} (r : Rd H a u) (x : HOk P w H h) : ObjOk P w H h a u := by
  rcases r with r | ⟨o, r⟩
  · exact x a u r
  · obtain ⟨_, q⟩ := x a _ r
    exact q
/-- what may be written -/
def Mut : Option HO → Prop
  | some (.lst _) => True
  | some (.dK _) => True
  | some (.dT _) => True
  | some (.set _ _) => True
  | some (.ins _ _ _) => True
  | some (.ext _) => True
  | _ => False
section
variable {P : Program} {w : World} {H : Hp} {h h' : Heap} {x e : Addr} {o' : HO}
/-- the object at e is changed: x itself, or the dict of the instance x -/
theorem HOk.write (ok : HOk P w H h) (mu : Mut (H x)) (he : e = x ∨ H e = some (.own x)) (k : ∀ b u, b ≠ e → h.get? b = some u → h'.get? b = some u) (heo : ∃ u, h'.get? e = some u)
    (new : ObjOk P w (upd H x o') h' x o') : HOk P w (upd H x o') h' := fun b u q => by
  have nown : ∀ c y, H c = some (.own y) → c ≠ x := fun c y r z => by subst z; rw [r] at mu; exact mu
  have ntup : ∀ c xs, H c = some (.tup xs) → c ≠ x := fun c xs r z => by subst z; rw [r] at mu; exact mu
  by_cases hb : b = x
  · subst hb; rw [upd_same] at q; cases q; exact new
  · rw [upd_ne hb] at q
    by_cases hbe : b = e
    · have q' : H b = some (.own x) := by
        rcases he with z | z
        · exact absurd (hbe.trans z) hb
        · rw [hbe]; exact z
      rw [q] at q'; cases q'
      obtain ⟨v, hv⟩ := heo
      exact ⟨v, by rw [hbe]; exact hv⟩
    · refine (ok b u q).stay (fun c v hc r => k c v ?_ r) (fun c r => by rw [upd_ne (nown c b r)]; exact r) fun c xs r => by rw [upd_ne (ntup c xs r)]; exact r
      rcases hc with rfl | hc
      · exact hbe
      · rintro rfl
        rcases he with z | z
        · exact nown c b hc z
        · rw [hc] at z; cases z; exact hb rfl
end

structure Un (fs ex : List Addr) (H H' : Hp) (h h' : Heap) : Prop where
  keep : ∀ b o, h.get? b = some o → H b = none → b ∉ fs → b ∉ ex → h'.get? b = some o
  slot : ∀ b o, h.get? b = some o → H b = none → b ∈ fs → b ∉ ex → ∃ sl, h'.get? b = some { o with slots := sl }
  free : ∀ b o, h.get? b = some o → H b = none → b ∉ ex → H' b = none
  there : ∀ b o, h.get? b = some o → b ∉ ex → ∃ o', h'.get? b = some o'
  tups : ∀ b xs, H b = some (.tup xs) → H' b = some (.tup xs)
  frzs : ∀ b o u, H b = some (.frz o u) → H' b = some (.frz o u)
  tbls : ∀ b ps, H b = some (.tbl ps) → ∃ more, H' b = some (.tbl (ps ++ more))
section
variable {fs fs' ex ex' : List Addr} {H H1 H2 : Hp} {h h1 h2 h' : Heap} {a x e : Addr} {o : HO}
theorem Un.any (u : Un fs ex H H1 h h1) {b : Addr} {ob : Obj} (q : h.get? b = some ob) (n : H b = none) (hx : b ∉ ex) : ∃ sl, h1.get? b = some { ob with slots := sl } := by
  by_cases hb : b ∈ fs
  · exact u.slot b ob q n hb hx
  · exact ⟨ob.slots, u.keep b ob q n hb hx⟩
theorem Un.trans (a : Un fs ex H H1 h h1) (b : Un fs ex H1 H2 h1 h2) : Un fs ex H H2 h h2 where
  keep := fun c ob q n hc hx => b.keep c ob (a.keep c ob q n hc hx) (a.free c ob q n hx) hc hx
  slot := fun c ob q n hc hx => by
    obtain ⟨sl, e1⟩ := a.slot c ob q n hc hx
    obtain ⟨sl', e2⟩ := b.slot c _ e1 (a.free c ob q n hx) hc hx
    exact ⟨sl', e2⟩
  free := fun c ob q n hx => by
    obtain ⟨o', e1⟩ := a.there c ob q hx
    exact b.free c o' e1 (a.free c ob q n hx) hx
  there := fun c ob q hx => by
    obtain ⟨o', e1⟩ := a.there c ob q hx
    exact b.there c o' e1 hx
  tups := fun c xs q => b.tups c xs (a.tups c xs q)
  frzs := fun c ob xs q => b.frzs c ob xs (a.frzs c ob xs q)
  tbls := fun c ps q => by
    obtain ⟨m1, e1⟩ := a.tbls c ps q
    obtain ⟨m2, e2⟩ := b.tbls c _ e1
    exact ⟨m1 ++ m2, by rw [e2, Array.append_assoc]⟩
theorem Un.kept (k : ∀ b u, h.get? b = some u → h'.get? b = some u) : Un fs ex H H h h' :=
  ⟨fun b ob q _ _ _ => k b ob q, fun b ob q _ _ _ => ⟨ob.slots, k b ob q⟩, fun _ _ _ n _ => n, fun b ob q _ => ⟨ob, k b ob q⟩, fun _ _ q => q, fun _ _ _ q => q, fun _ ps q => ⟨#[], by rw [q]; simp⟩⟩
theorem Un.refl : Un fs ex H H h h := Un.kept fun _ _ q => q
theorem Un.laid (k : ∀ b u, h.get? b = some u → h'.get? b = some u) (hp : h.objs.size ≤ a) (hn : H a = none) : Un fs ex H (upd H a o) h h' where
  keep := fun b u q _ _ _ => k b u q
  slot := fun b u q _ _ _ => ⟨u.slots, k b u q⟩
  free := fun b u q n _ => by rw [upd_ne (Nat.ne_of_lt (Nat.lt_of_lt_of_le (Heap.lt_size q) hp))]; exact n
  there := fun b u q _ => ⟨u, k b u q⟩
  tups := fun b xs q => by rw [upd_ne (ne_of_none q hn)]; exact q
  frzs := fun b u xs q => by rw [upd_ne (ne_of_none q hn)]; exact q
  tbls := fun b ps q => ⟨#[], by rw [upd_ne (ne_of_none q hn), q]; simp⟩
theorem Un.write (mu : Mut (H x)) (he : e = x ∨ H e = some (.own x)) (k : ∀ b u, b ≠ e → h.get? b = some u → h'.get? b = some u) (heo : ∃ u, h'.get? e = some u) : Un fs ex H (upd H x o) h h' := by
  have hx : ∀ b, H b = none → b ≠ x := fun b n z => by subst z; rw [n] at mu; exact mu
  have hb : ∀ b, H b = none → b ≠ e := fun b n z => by
    subst z
    rcases he with r | r
    · exact hx b n r
    · rw [n] at r; cases r
  have hm : ∀ b u, H b = some u → ¬ Mut (some u) → b ≠ x := fun b u q nm z => by subst z; rw [q] at mu; exact nm mu
  refine ⟨fun b u q n _ _ => k b u (hb b n) q, fun b u q n _ _ => ⟨u.slots, k b u (hb b n) q⟩, fun b u q n _ => by rw [upd_ne (hx b n)]; exact n, fun b u q _ => ?_,
    fun b xs q => by rw [upd_ne (hm b _ q fun z => z)]; exact q, fun b u xs q => by rw [upd_ne (hm b _ q fun z => z)]; exact q, fun b ps q => ⟨#[], by rw [upd_ne (hm b _ q fun z => z), q]; simp⟩⟩
  by_cases hbe : b = e
  · subst hbe; exact heo
  · exact ⟨u, k b u hbe q⟩
theorem Un.mono (u : Un fs ex H H1 h h1) (hs : ∀ b ∈ fs, b ∈ fs') (hx : ∀ b ∈ ex, b ∈ ex') : Un fs' ex' H H1 h h1 :=
  ⟨fun b ob q n hb he => u.keep b ob q n (fun z => hb (hs b z)) fun z => he (hx b z), fun _ _ q n _ he => u.any q n fun z => he (hx _ z), fun b ob q n he => u.free b ob q n fun z => he (hx b z), fun b ob q he => u.there b ob q fun z => he (hx b z), u.tups, u.frzs, u.tbls⟩
end

def trk (h : Heap) (H : Hp) : List Addr := (List.range h.objs.size).filter fun a => (H a).isSome
def hidT (h : Heap) (H : Hp) : Heap := PySem.W.hideAll h (trk h H)
theorem hidT_size (h : Heap) (H : Hp) : (hidT h H).objs.size = h.objs.size := PySem.W.hideAll_size _ _
theorem hidT_get {h : Heap} {H : Hp} {b : Addr} {o : Obj} (e : h.get? b = some o) (n : H b = none) : (hidT h H).get? b = some o :=
  PySem.W.hideAll_get _ e fun hm => by
    have q : (H b).isSome = true := (List.mem_filter.mp hm).2
    rw [n] at q; simp at q
theorem of_hidT {h : Heap} {H : Hp} {b : Addr} {o : Obj} (e : (hidT h H).get? b = some o) : h.get? b = some o ∧ H b = none := by
  have e' : h.get? b = some o := PySem.W.of_hideAll (trk h H) e
  refine ⟨e', ?_⟩
  cases q : H b with
  | none => rfl
  | some x =>
    have hm : b ∈ trk h H := List.mem_filter.mpr ⟨List.mem_range.mpr (Heap.lt_size e'), by simp [q]⟩
    have z : (hidT h H).get? b = none := PySem.W.hideAll_none (trk h H) hm
    rw [z] at e; cases e
def allNews (g h : Heap) (L : Addr) : List (Addr × Obj) := (List.range h.objs.size).filterMap fun a => if a = L ∨ (g.get? a).isSome = true then none else (h.get? a).map fun o => (a, o)
def rest (g h : Heap) (L d : Addr) : List (Addr × Obj) := (allNews g h L).filter fun p => decide (p.1 ≠ d)
end L2

namespace L2
open PySem PySem.Spec PyProof.Rows

/-- the module's facts, over the base: the heap at the law's entry without what is tracked there -/
structure Mod (K : PySem.W.Frag) (mg : Str → Option Value) (base : Heap) : Prop where
  kin : K.In base
  glob : base.Ns mainGlobals mg
  blt : ∃ mb, base.Ns builtinsNs mb ∧ ∀ x : Str, x ≠ "__name__" → mb x = bootBuiltins x
  nolimit : base.NoLimit
/-- the context: a def's body (or a comprehension's block) running. base: fixed through the whole law; s₀, H₀: the entry; outer: the frames whose slots others may change (a def's callers); stack: all frames that run;
   ex: iterators that were made ahead of the entry and are walked here (a comprehension's); fn: the names whose cells were made at the entry (a def: all; a comprehension's block: its own); calm: not within an except suite; pn: pins that every state bears; xe: what is wanted of an exception that leaves the code -/
structure Cx where
  prog : Program
  w : World
  K : PySem.W.Frag
  mg : Str → Option Value
  base : Heap
  A : Around
  N : List Str
  s₀ : Shared
  H₀ : Hp
  env : Env
  outer : List Env
  stack : List Env
  ex : List Addr
  fn : Str → Bool
  calm : Bool
  pn : List (Addr × Obj)
  xe : Value → Shared → Prop
/-- the callers' frames -/
def frs (l : List Env) : List Addr := l.filterMap (·.frame)
abbrev Cx.fs (X : Cx) : List Addr := frs X.outer
def Vis (sc : Scope) (x : Str) : Prop := sc.names.lookup x = some .local ∨ sc.names.lookup x = some .cell ∨ sc.names.lookup x = some .free
def Loc (sc : Scope) (x : Str) : Prop := sc.names.lookup x = some .local ∨ sc.names.lookup x = some .cell
def Look (env : Env) (h : Heap) (m : Str → Option Value) (x : Str) (u : Value) : Prop :=
  (env.kindOf x = some .local ∧ m x = some u) ∨ ((env.kindOf x = some .cell ∨ env.kindOf x = some .free) ∧ ∃ c, env.cells.lookup x = some c ∧ h.IsCell c (some u))
structure Cx.Ok (X : Cx) : Prop where
  mod : Mod X.K X.mg X.base
  kind : X.env.scope.kind = .function
  glob : X.env.globals = mainGlobals
  blt : X.env.builtins = builtinsNs
  above : X.s₀.heap.objs.size ≤ X.env.locals
  inj : ∀ x y c, X.env.cells.lookup x = some c → X.env.cells.lookup y = some c → x = y
  has : ∀ x, (X.env.kindOf x = some .cell ∨ X.env.kindOf x = some .free) → ∃ c, X.env.cells.lookup x = some c
  cab : ∀ x c, X.fn x = true → X.env.cells.lookup x = some c → X.s₀.heap.objs.size ≤ c
  hd : X.calm = true → X.A.handled = none
  frames : X.A.frames = some X.stack
  stk : X.stack = X.outer ∨ (X.stack = X.env :: X.outer ∧ X.env.frame = some X.env.locals)
  exf : ∀ b ∈ X.ex, b ≠ X.env.locals ∧ ∀ x c, X.env.cells.lookup x = some c → c ≠ b
  bs : ∀ b o, X.base.get? b = some o → X.s₀.heap.get? b = some o ∧ X.H₀ b = none
  bsz : X.base.objs.size ≤ X.s₀.heap.objs.size
  noex : ∀ b o, X.base.get? b = some o → b ∉ X.ex
  exfs : ∀ b ∈ X.ex, b ∉ X.fs
  funs : X.s₀.heap.FunFrames X.base X.outer
  frf : ∀ b ∈ X.fs, X.H₀ b = none
structure Inv (X : Cx) (pins : List (Addr × Obj)) (σ : List (Option V)) (H : Hp) (s : Shared) : Prop where
  ok : X.Ok
  os : s.os = X.s₀.os
  bare : AllBare s.gens
  base : Un X.fs X.ex X.H₀ H X.s₀.heap s.heap
  loc : ∃ m, s.heap.Ns X.env.locals m ∧ ∀ (i : Nat) (x : Str) (v : V), X.N[i]? = some x → σ[i]? = some (some v) → Vis X.env.scope x → ∃ u, RelV v u ∧ Look X.env s.heap m x u
  cell : ∀ x c, X.env.cells.lookup x = some c → ∃ v, s.heap.IsCell c v
  free : H X.env.locals = none
  freeC : ∀ x c, X.env.cells.lookup x = some c → H c = none
  pin : ∀ p ∈ X.pn ++ pins, s.heap.get? p.1 = some p.2 ∧ H p.1 = none ∧ p.1 ≠ X.env.locals ∧ p.1 ∉ X.fs ∧ ∀ v, p.2.data ≠ .cell v
  hok : HOk X.prog X.w H s.heap
  len : σ.length = X.N.length
section
variable {X : Cx} {pins : List (Addr × Obj)} {σ : List (Option V)} {H H' : Hp} {s : Shared} {h' : Heap}

theorem Cx.Ok.nofr (ok : X.Ok) {b : Addr} {o : Obj} (e : X.base.get? b = some o) : b ∉ X.fs := fun hb => by
  have := (ok.funs.mem hb).1
  rw [e] at this; cases this
theorem Inv.bs (I : Inv X pins σ H s) : ∀ b o, X.base.get? b = some o → s.heap.get? b = some o ∧ H b = none := fun b o e =>
  ⟨I.base.keep b o (I.ok.bs b o e).1 (I.ok.bs b o e).2 (I.ok.nofr e) (I.ok.noex b o e), I.base.free b o (I.ok.bs b o e).1 (I.ok.bs b o e).2 (I.ok.noex b o e)⟩
theorem Inv.bk (I : Inv X pins σ H s) : ∀ b o, X.base.get? b = some o → s.heap.get? b = some o := fun b o e => (I.bs b o e).1
theorem Inv.mod (I : Inv X pins σ H s) : Mod X.K X.mg X.base := I.ok.mod
theorem Inv.kIn (I : Inv X pins σ H s) : X.K.In s.heap := I.ok.mod.kin.keeps I.bk
theorem Inv.nolimit (I : Inv X pins σ H s) : s.heap.NoLimit := I.ok.mod.nolimit.keeps I.bk
/-- the frame over the base: for OpenK's rules (K.In X.base is I.mod.kin) -/
theorem Inv.fr (I : Inv X pins σ H s) : ∃ m, Fr X.base X.env.locals s.heap m :=
  let ⟨m, hn, _⟩ := I.loc
  ⟨m, hn, I.bk, Nat.le_trans I.ok.bsz I.ok.above⟩
theorem Inv.lt (I : Inv X pins σ H s) : X.env.locals < s.heap.objs.size := let ⟨_, hn, _⟩ := I.loc; hn.lt
theorem Inv.sz (I : Inv X pins σ H s) : X.s₀.heap.objs.size ≤ s.heap.objs.size := Nat.le_trans I.ok.above (Nat.le_of_lt I.lt)
theorem Inv.nofs (I : Inv X pins σ H s) {a : Addr} (h : s.heap.objs.size ≤ a) : a ∉ X.fs := fun hb => by
  obtain ⟨_, o, ho, _⟩ := I.ok.funs.mem hb
  exact absurd (Nat.lt_of_lt_of_le (Heap.lt_size ho) (Nat.le_trans I.sz h)) (Nat.lt_irrefl _)
theorem Inv.cne (I : Inv X pins σ H s) : ∀ x c, X.env.cells.lookup x = some c → c ≠ X.env.locals := fun x c e z => by
  obtain ⟨v, o, ho, hd⟩ := I.cell x c e
  obtain ⟨m, ⟨o', es, ep, ho', hd', _⟩, _⟩ := I.loc
  rw [z, ho'] at ho; cases ho; rw [hd'] at hd; cases hd
theorem Inv.funs (I : Inv X pins σ H s) : s.heap.FunFrames X.base X.outer := by
  have all : ∀ (l : List Env), (∀ b ∈ frs l, b ∈ X.fs) → X.s₀.heap.FunFrames X.base l → s.heap.FunFrames X.base l := by
    intro l
    induction l with
    | nil => intro _ _; trivial
    | cons env r ih =>
      intro hs hl
      obtain ⟨hk, ⟨L, o, hf, hn, ho, hd⟩, hr⟩ := hl
      have hL : L ∈ X.fs := hs L (by unfold frs; rw [List.filterMap_cons, hf]; exact List.mem_cons_self)
      obtain ⟨sl, e⟩ := I.base.slot L o ho (I.ok.frf L hL) hL fun z => I.ok.exfs L z hL
      exact ⟨hk, ⟨L, _, hf, hn, e, hd⟩, ih (fun b hb => hs b (by unfold frs; rw [List.filterMap_cons, hf]; exact List.mem_cons_of_mem _ hb)) hr⟩
  exact all X.outer (fun _ hb => hb) I.ok.funs
/-- the frames that run, for a call -/
theorem Inv.stack (I : Inv X pins σ H s) : s.heap.FunFrames X.base X.stack := by
  rcases I.ok.stk with e | ⟨e, hf⟩
  · rw [e]; exact I.funs
  · rw [e]
    obtain ⟨m, hn, _⟩ := I.loc
    refine .cons (by rw [I.ok.kind]; decide) hf hn ?_ I.funs
    exact Heap.get?_none_of_le (Nat.le_trans I.ok.bsz I.ok.above)
theorem Inv.stkSub (I : Inv X pins σ H s) : ∀ b ∈ frs X.stack, b ∈ X.env.locals :: X.fs := fun b hb => by
  rcases I.ok.stk with e | ⟨e, hf⟩
  · rw [e] at hb; exact List.mem_cons_of_mem _ hb
  · rw [e] at hb
    unfold frs at hb
    rw [List.filterMap_cons, hf] at hb
    exact hb
theorem Inv.stkFree (I : Inv X pins σ H s) : ∀ b ∈ frs X.stack, H b = none := fun b hb => by
  rcases List.mem_cons.mp (I.stkSub b hb) with e | hb
  · rw [e]; exact I.free
  · obtain ⟨_, o, ho, _⟩ := I.ok.funs.mem hb
    exact I.base.free b o ho (I.ok.frf b hb) fun z => I.ok.exfs b z hb
/-- THE STEP: the untracked objects but the frame and the records at ch are kept (the callers' frames up to slots), the frame's map is kept, the new abstract heap is held -/
theorem Inv.step {g' : Array GenState} {t' : Nat} {d' : Drawn} {ch : List Addr} (I : Inv X pins σ H s)
    (hch : ∀ b ∈ ch, (b ∈ X.ex ∨ X.s₀.heap.objs.size ≤ b) ∧ b ≠ X.env.locals ∧ (∀ x c, X.env.cells.lookup x = some c → c ≠ b) ∧ ∀ p ∈ X.pn ++ pins, p.1 ≠ b)
    (keep : ∀ b o, b ≠ X.env.locals → b ∉ X.fs → b ∉ ch → s.heap.get? b = some o → H b = none → h'.get? b = some o)
    (slot : ∀ b o, b ≠ X.env.locals → b ∈ X.fs → b ∉ ch → s.heap.get? b = some o → H b = none → ∃ sl, h'.get? b = some { o with slots := sl }) (free : ∀ b o, b ∉ ch → s.heap.get? b = some o → H b = none → H' b = none)
    (there : ∀ b o, b ∉ ch → s.heap.get? b = some o → ∃ o', h'.get? b = some o')
    (tups : ∀ b xs, H b = some (.tup xs) → H' b = some (.tup xs)) (frzs : ∀ b o u, H b = some (.frz o u) → H' b = some (.frz o u)) (tbls : ∀ b ps, H b = some (.tbl ps) → ∃ more, H' b = some (.tbl (ps ++ more)))
    (ns : ∀ m, s.heap.Ns X.env.locals m → h'.Ns X.env.locals m) (hok : HOk X.prog X.w H' h') (hg : AllBare g') :
    Inv X pins σ H' { s with heap := h', gens := g', drawn := d', toks := t' } := by
  have neL : ∀ b o, X.s₀.heap.get? b = some o → b ≠ X.env.locals := fun b o e => Nat.ne_of_lt (Nat.lt_of_lt_of_le (Heap.lt_size e) I.ok.above)
  have neC : ∀ b o, X.s₀.heap.get? b = some o → b ∉ X.ex → b ∉ ch := fun b o e hx hb => by
    rcases (hch b hb).1 with z | z
    · exact hx z
    · exact absurd (Nat.lt_of_lt_of_le (Heap.lt_size e) z) (Nat.lt_irrefl _)
  have cellK : ∀ x c, X.env.cells.lookup x = some c → ∀ v, s.heap.IsCell c v → h'.IsCell c v := fun x c e v ⟨o, ho, hd⟩ => by
    have nch : c ∉ ch := fun z => (hch c z).2.2.1 x c e rfl
    by_cases hc : c ∈ X.fs
    · obtain ⟨sl, q⟩ := slot c o (I.cne x c e) hc nch ho (I.freeC x c e)
      exact ⟨_, q, hd⟩
    · exact ⟨o, keep c o (I.cne x c e) hc nch ho (I.freeC x c e), hd⟩
  refine ⟨I.ok, I.os, hg, ⟨fun b o e n hb hx => ?_, fun b o e n hb hx => ?_, fun b o e n hx => ?_, fun b o e hx => ?_, fun b xs e => tups b xs (I.base.tups b xs e), fun b o xs e => frzs b o xs (I.base.frzs b o xs e), fun b ps e => ?_⟩, ?_, fun x c e => ?_, ?_, fun x c e => ?_, fun p hp => ?_, hok, I.len⟩
  · exact keep b o (neL b o e) hb (neC b o e hx) (I.base.keep b o e n hb hx) (I.base.free b o e n hx)
  · obtain ⟨sl, e1⟩ := I.base.slot b o e n hb hx
    obtain ⟨sl', e2⟩ := slot b _ (neL b o e) hb (neC b o e hx) e1 (I.base.free b o e n hx)
    exact ⟨sl', e2⟩
  · obtain ⟨o', e1⟩ := I.base.there b o e hx
    exact free b o' (neC b o e hx) e1 (I.base.free b o e n hx)
  · obtain ⟨o', e1⟩ := I.base.there b o e hx
    exact there b o' (neC b o e hx) e1
  · obtain ⟨m1, e1⟩ := I.base.tbls b ps e
    obtain ⟨m2, e2⟩ := tbls b _ e1
    exact ⟨m1 ++ m2, by rw [e2, Array.append_assoc]⟩
  · obtain ⟨m, hn, hl⟩ := I.loc
    refine ⟨m, ns m hn, fun i x v e1 e2 e3 => ?_⟩
    obtain ⟨u, r, l⟩ := hl i x v e1 e2 e3
    refine ⟨u, r, ?_⟩
    rcases l with l | ⟨k, c, e, z⟩
    · exact .inl l
    · exact .inr ⟨k, c, e, cellK x c e _ z⟩
  · obtain ⟨v, z⟩ := I.cell x c e
    exact ⟨v, cellK x c e v z⟩
  · obtain ⟨m, ⟨o, _, _, ho, _⟩, _⟩ := I.loc
    exact free _ o (fun z => (hch _ z).2.1 rfl) ho I.free
  · obtain ⟨v, o, ho, hd⟩ := I.cell x c e
    exact free c o (fun z => (hch c z).2.2.1 x c e rfl) ho (I.freeC x c e)
  · obtain ⟨e, n, ne, nf, d⟩ := I.pin p hp
    have nch : p.1 ∉ ch := fun z => (hch p.1 z).2.2.2 p hp rfl
    exact ⟨keep p.1 p.2 ne nf nch e n, free p.1 p.2 nch e n, ne, nf, d⟩
/-- .. where the frame's own object is kept too -/
theorem Inv.un {t' : Nat} (I : Inv X pins σ H s) (u : Un X.fs [] H H' s.heap h') (hok : HOk X.prog X.w H' h') : Inv X pins σ H' { s with heap := h', toks := t' } := by
  obtain ⟨m, ⟨o, es, ep, ho, r⟩, _⟩ := id I.loc
  obtain ⟨sl, hL⟩ := u.any ho I.free (by simp)
  exact I.step (g' := s.gens) (d' := s.drawn) (ch := []) (fun _ z => nomatch z) (fun b o _ hb _ e n => u.keep b o e n hb (by simp)) (fun b o _ hb _ e n => u.slot b o e n hb (by simp)) (fun b o _ e n => u.free b o e n (by simp)) (fun b o _ e => u.there b o e (by simp)) u.tups u.frzs u.tbls (fun m' hm => by
    obtain ⟨o', es', ep', ho', r'⟩ := hm
    rw [ho] at ho'; cases ho'
    exact ⟨_, es', ep', hL, r'⟩) hok I.bare
/-- behind a call (or a comprehension's block): the slots of this frame may have changed too, the records at ch may have turned -/
theorem Inv.call {g' : Array GenState} {t' : Nat} {d' : Drawn} {ch : List Addr} (I : Inv X pins σ H s) (u : Un (frs X.stack) ch H H' s.heap h') (hok : HOk X.prog X.w H' h') (hg : AllBare g')
    (hch : ∀ b ∈ ch, (b ∈ X.ex ∨ X.s₀.heap.objs.size ≤ b) ∧ b ≠ X.env.locals ∧ (∀ x c, X.env.cells.lookup x = some c → c ≠ b) ∧ ∀ p ∈ X.pn ++ pins, p.1 ≠ b) :
    Inv X pins σ H' { s with heap := h', gens := g', drawn := d', toks := t' } := by
  obtain ⟨m, ⟨o, es, ep, ho, r⟩, _⟩ := id I.loc
  obtain ⟨sl, hL⟩ := u.any ho I.free fun z => (hch _ z).2.1 rfl
  exact I.step (ch := ch) hch (fun b o hL hb hc e n => u.keep b o e n (fun z => (List.mem_cons.mp (I.stkSub b z)).elim hL hb) hc) (fun b o _ _ hc e n => u.any e n hc) (fun b o hc e n => u.free b o e n hc) (fun b o hc e => u.there b o e hc) u.tups u.frzs u.tbls (fun m' hm => by
    obtain ⟨o', es', ep', ho', r'⟩ := hm
    rw [ho] at ho'; cases ho'
    exact ⟨_, es', ep', hL, r'⟩) hok hg
/-- an untracked record of ours (an iterator) has turned -/
theorem Inv.turned {t' : Nat} {it : Addr} (I : Inv X pins σ H s) (k : ∀ b o, b ≠ it → s.heap.get? b = some o → h'.get? b = some o) (hn : H it = none) (hL : it ≠ X.env.locals)
    (h1 : it ∈ X.ex ∨ X.s₀.heap.objs.size ≤ it) (h2 : ∀ x c, X.env.cells.lookup x = some c → c ≠ it) (h3 : ∀ p ∈ X.pn ++ pins, p.1 ≠ it) : Inv X pins σ H { s with heap := h', toks := t' } := by
  have nit : ∀ b u, H b = some u → b ≠ it := fun b u e z => by rw [z, hn] at e; cases e
  refine I.step (g' := s.gens) (d' := s.drawn) (ch := [it]) (fun b hb => ?_) (fun b o _ _ hc e _ => k b o (fun z => hc (by simp [z])) e) (fun b o _ _ hc e _ => ⟨o.slots, k b o (fun z => hc (by simp [z])) e⟩) (fun _ _ _ _ n => n)
    (fun b o hc e => ⟨o, k b o (fun z => hc (by simp [z])) e⟩) (fun _ _ e => e) (fun _ _ _ e => e) (fun b ps e => ⟨#[], by rw [e]; simp⟩) (fun m hm => ?_) (fun b u e => ?_) I.bare
  · have e : b = it := by simpa using hb
    subst e
    exact ⟨h1, hL, h2, h3⟩
  · obtain ⟨o, es, ep, ho, r⟩ := hm
    exact ⟨o, es, ep, k _ o (Ne.symm hL) ho, r⟩
  · refine (I.hok b u e).stay (fun c v hc q => k c v ?_ q) (fun _ q => q) fun _ _ q => q
    rcases hc with z | z
    · rw [z]; exact nit b u e
    · exact nit c _ z
theorem Inv.tok (I : Inv X pins σ H s) (t : Nat) : Inv X pins σ H { s with toks := t } := I.un (h' := s.heap) (t' := t) Un.refl I.hok
/-- all objects kept -/
theorem Inv.kept {t' : Nat} (I : Inv X pins σ H s) (k : ∀ b u, s.heap.get? b = some u → h'.get? b = some u) : Inv X pins σ H { s with heap := h', toks := t' } := I.un (Un.kept k) (I.hok.kept k)
/-- a new object laid and tracked -/
theorem Inv.laid {a : Addr} {o : HO} {t' : Nat} (I : Inv X pins σ H s) (k : ∀ b u, s.heap.get? b = some u → h'.get? b = some u) (hp : s.heap.objs.size ≤ a) (new : ObjOk X.prog X.w (upd H a o) h' a o) :
    Inv X pins σ (upd H a o) { s with heap := h', toks := t' } := I.un (Un.laid k hp (I.hok.fresh hp)) (I.hok.laid k hp new)
/-- an object written -/
theorem Inv.write {x e : Addr} {o : HO} {t' : Nat} (I : Inv X pins σ H s) (mu : Mut (H x)) (he : e = x ∨ H e = some (.own x)) (k : ∀ b u, b ≠ e → s.heap.get? b = some u → h'.get? b = some u) (heo : ∃ u, h'.get? e = some u)
    (new : ObjOk X.prog X.w (upd H x o) h' x o) : Inv X pins σ (upd H x o) { s with heap := h', toks := t' } := I.un (Un.write mu he k heo) (I.hok.write mu he k heo new)
theorem Inv.pins_of {pins' : List (Addr × Obj)} (I : Inv X pins σ H s) (h : ∀ p ∈ pins', s.heap.get? p.1 = some p.2 ∧ H p.1 = none ∧ p.1 ≠ X.env.locals ∧ p.1 ∉ X.fs ∧ ∀ v, p.2.data ≠ .cell v) : Inv X pins' σ H s :=
  ⟨I.ok, I.os, I.bare, I.base, I.loc, I.cell, I.free, I.freeC, fun p hp => (List.mem_append.mp hp).elim (fun z => I.pin p (List.mem_append_left _ z)) (h p), I.hok, I.len⟩
theorem nodup_ix {N : List Str} (hN : N.Nodup) {i j : Nat} {x : Str} (a : N[i]? = some x) (b : N[j]? = some x) : i = j := by
  obtain ⟨h1, e1⟩ := List.getElem?_eq_some_iff.mp a
  obtain ⟨h2, e2⟩ := List.getElem?_eq_some_iff.mp b
  exact (List.getElem_inj hN).mp (e1.trans e2.symm)
/-- a name is stored; what changed -/
theorem store_ok2 {M : Model} {A : Around} {E : Value → Shared → Prop} {i : Nat} {x : Str} {v : V} {u : Value} {Q : Unit → Shared → Prop} (I : Inv X pins σ H s) (hN : X.N.Nodup) (hi : X.N[i]? = some x) (hx : Loc X.env.scope x) (r : RelV v u)
    (h : ∀ s', Inv X pins (σ.set i (some v)) H s' → (∃ a, Heap.SameBut a s.heap s'.heap ∧ (a = X.env.locals ∨ X.env.cells.lookup x = some a)) → Q () s') (hf : X.fn x = true ∨ X.env.scope.names.lookup x = some .local := by first | exact .inl rfl | exact .inr rfl | assumption) : wpAny M A (storeName X.env x u) Q E s := by
  obtain ⟨m, hn, hl⟩ := id I.loc
  have hcls : (X.env.scope.kind == .class || (X.env.scope.kind == .module && X.env.locals != X.env.globals)) = false := by rw [I.ok.kind]; rfl
  have hiσ : i < σ.length := by rw [I.len]; exact (List.getElem?_eq_some_iff.mp hi).1
  have cne := I.cne
  have tracked : ∀ {a : Addr} {h' : Heap}, (∃ o, s.heap.get? a = some o ∧ H a = none) → Heap.SameBut a s.heap h' → HOk X.prog X.w H h' := fun {a h'} ha hs b ob e => by
    obtain ⟨_, _, hfree⟩ := ha
    refine (I.hok b ob e).stay (fun c w' hc q => (hs.2 c ?_).trans q) (fun _ q => q) fun _ _ q => q
    rintro rfl
    rcases hc with rfl | hc
    · rw [hfree] at e; cases e
    · rw [hfree] at hc; cases hc
  rcases hx with hk | hk
  · refine wpAny_storeName_local hk hn (fun h' hn' hs => ?_) hcls
    obtain ⟨oL, _, _, hoL, _⟩ := id hn
    refine h _ ⟨I.ok, I.os, I.bare, ⟨fun b o e n hb hx => ?_, fun b o e n hb hx => ?_, I.base.free, fun b o e hx => ?_, I.base.tups, I.base.frzs, I.base.tbls⟩, ⟨_, hn', fun j y v' e1 e2 e3 => ?_⟩, fun y c e => ?_, I.free, I.freeC, fun p hp => ?_, tracked ⟨oL, hoL, I.free⟩ hs, by simpa using I.len⟩ ⟨_, hs, .inl rfl⟩
    · exact (hs.2 b (Nat.ne_of_lt (Nat.lt_of_lt_of_le (Heap.lt_size e) I.ok.above))).trans (I.base.keep b o e n hb hx)
    · obtain ⟨sl, e1⟩ := I.base.slot b o e n hb hx
      exact ⟨sl, (hs.2 b (Nat.ne_of_lt (Nat.lt_of_lt_of_le (Heap.lt_size e) I.ok.above))).trans e1⟩
    · obtain ⟨o', e1⟩ := I.base.there b o e hx
      exact ⟨o', (hs.2 b (Nat.ne_of_lt (Nat.lt_of_lt_of_le (Heap.lt_size e) I.ok.above))).trans e1⟩
    · by_cases hj : j = i
      · subst hj
        rw [hi] at e1; cases e1
        rw [List.getElem?_set_self hiσ] at e2
        cases e2
        exact ⟨u, r, .inl ⟨hk, by simp⟩⟩
      · rw [List.getElem?_set_ne (Ne.symm hj)] at e2
        obtain ⟨u', r', q⟩ := hl j y v' e1 e2 e3
        refine ⟨u', r', ?_⟩
        rcases q with ⟨k, e⟩ | ⟨k, c, e, z⟩
        · refine .inl ⟨k, ?_⟩
          have : y ≠ x := fun e => hj (nodup_ix hN e1 (e ▸ hi))
          simp [this, e]
        · exact .inr ⟨k, c, e, z.sameBut hs (cne y c e)⟩
    · obtain ⟨w', z⟩ := I.cell y c e
      exact ⟨w', z.sameBut hs (cne y c e)⟩
    · obtain ⟨e, n, ne, nf, d⟩ := I.pin p hp
      exact ⟨(hs.2 p.1 ne).trans e, n, ne, nf, d⟩
  · have hfn : X.fn x = true := by
      rcases hf with z | z
      · exact z
      · rw [z] at hk; cases hk
    obtain ⟨c, hc⟩ := I.ok.has x (.inl hk)
    obtain ⟨w', z⟩ := I.cell x c hc
    refine wpAny_storeName_cell I.ok.kind hk hc z (fun h' hc' hs => ?_)
    obtain ⟨oc, hoc, hocd⟩ := id z
    refine h { s with heap := h' } ⟨I.ok, I.os, I.bare, ⟨fun b o e n hb hx => ?_, fun b o e n hb hx => ?_, I.base.free, fun b o e hx => ?_, I.base.tups, I.base.frzs, I.base.tbls⟩, ⟨m, hn.sameBut hs (Ne.symm (cne x c hc)), fun j y v' e1 e2 e3 => ?_⟩, fun y c' e => ?_, I.free, I.freeC, fun p hp => ?_, tracked ⟨oc, hoc, I.freeC x c hc⟩ hs, by simpa using I.len⟩ ⟨c, hs, .inr hc⟩
    · exact (hs.2 b (Nat.ne_of_lt (Nat.lt_of_lt_of_le (Heap.lt_size e) (I.ok.cab x c hfn hc)))).trans (I.base.keep b o e n hb hx)
    · obtain ⟨sl, e1⟩ := I.base.slot b o e n hb hx
      exact ⟨sl, (hs.2 b (Nat.ne_of_lt (Nat.lt_of_lt_of_le (Heap.lt_size e) (I.ok.cab x c hfn hc)))).trans e1⟩
    · obtain ⟨o', e1⟩ := I.base.there b o e hx
      exact ⟨o', (hs.2 b (Nat.ne_of_lt (Nat.lt_of_lt_of_le (Heap.lt_size e) (I.ok.cab x c hfn hc)))).trans e1⟩
    · by_cases hj : j = i
      · subst hj
        rw [hi] at e1; cases e1
        rw [List.getElem?_set_self hiσ] at e2
        cases e2
        exact ⟨u, r, .inr ⟨.inl hk, c, hc, hc'⟩⟩
      · rw [List.getElem?_set_ne (Ne.symm hj)] at e2
        obtain ⟨u', r', q⟩ := hl j y v' e1 e2 e3
        refine ⟨u', r', ?_⟩
        rcases q with q | ⟨k, c', e, z'⟩
        · exact .inl q
        · refine .inr ⟨k, c', e, z'.sameBut hs ?_⟩
          rintro rfl
          exact hj (nodup_ix hN e1 (I.ok.inj _ _ _ e hc ▸ hi))
    · by_cases hcc : c' = c
      · subst hcc; exact ⟨_, hc'⟩
      · obtain ⟨w2, z2⟩ := I.cell y c' e
        exact ⟨w2, z2.sameBut hs hcc⟩
    · obtain ⟨e, n, ne, nf, d⟩ := I.pin p hp
      refine ⟨(hs.2 p.1 ?_).trans e, n, ne, nf, d⟩
      intro q
      rw [q, hoc] at e
      have q' : oc = p.2 := Option.some.inj e
      exact d w' (by rw [← q']; exact hocd)
theorem store_ok {M : Model} {A : Around} {E : Value → Shared → Prop} {i : Nat} {x : Str} {v : V} {u : Value} {Q : Unit → Shared → Prop} (I : Inv X pins σ H s) (hN : X.N.Nodup) (hi : X.N[i]? = some x) (hx : Loc X.env.scope x) (r : RelV v u)
    (h : ∀ s', Inv X pins (σ.set i (some v)) H s' → Q () s') (hf : X.fn x = true ∨ X.env.scope.names.lookup x = some .local := by first | exact .inl rfl | exact .inr rfl | assumption) : wpAny M A (storeName X.env x u) Q E s :=
  store_ok2 I hN hi hx r (fun s' I' _ => h s' I') hf
/-- behind a call or a block, the state as it is -/
theorem Inv.call' {s' : Shared} {ch : List Addr} (I : Inv X pins σ H s) (ho : s'.os = s.os) (u : Un (frs X.stack) ch H H' s.heap s'.heap) (hok : HOk X.prog X.w H' s'.heap) (hg : AllBare s'.gens)
    (hch : ∀ b ∈ ch, (b ∈ X.ex ∨ X.s₀.heap.objs.size ≤ b) ∧ b ≠ X.env.locals ∧ (∀ x c, X.env.cells.lookup x = some c → c ≠ b) ∧ ∀ p ∈ X.pn ++ pins, p.1 ≠ b) : Inv X pins σ H' s' := by
  obtain ⟨h', g', d', t', o'⟩ := s'
  have e : o' = s.os := ho
  subst e
  exact I.call (g' := g') (t' := t') (d' := d') u hok hg hch
end

/-- an exception: its class, its own dict's address (where it has one), the abstract heap behind it -/
abbrev XK := Value → Option Addr → Hp → Prop
abbrev St := List (Option V)
abbrev VK := V → Hp → Prop
/-- an expression's reading; a test's; an argument list's -/
abbrev TE := St → Hp → VK → Prop
abbrev TT := St → Hp → (Bool → Hp → Prop) → Prop
abbrev TA := St → Hp → (List V → Hp → Prop) → Prop
/-- what is wanted behind a statement -/
structure Ends where
  nx : St → Hp → Prop
  rt : VK
  bk : St → Hp → Prop := fun _ _ => False
  ct : St → Hp → Prop := fun _ _ => False
abbrev TS := Ends → St → Hp → Prop
def EP (X : Cx) (pins : List (Addr × Obj)) (σ : St) (Q : VK) (u : Value) (s' : Shared) : Prop := ∃ v H', Inv X pins σ H' s' ∧ RelV v u ∧ Q v H'
def TP (X : Cx) (pins : List (Addr × Obj)) (σ : St) (Q : Bool → Hp → Prop) (b : Bool) (s' : Shared) : Prop := ∃ H', Inv X pins σ H' s' ∧ Q b H'
def AP (X : Cx) (pins : List (Addr × Obj)) (σ : St) (Q : List V → Hp → Prop) (us : List Value) (s' : Shared) : Prop := ∃ vs H', Inv X pins σ H' s' ∧ Vals vs us ∧ Q vs H'
def SP (X : Cx) (pins : List (Addr × Obj)) (D : Ends) (f : Flow) (s' : Shared) : Prop :=
  match f with
  | .next => ∃ σ' H', Inv X pins σ' H' s' ∧ D.nx σ' H'
  | .brk => ∃ σ' H', Inv X pins σ' H' s' ∧ D.bk σ' H'
  | .cont => ∃ σ' H', Inv X pins σ' H' s' ∧ D.ct σ' H'
  | .ret u => ∃ v σ' H', Inv X pins σ' H' s' ∧ RelV v u ∧ D.rt v H'
def PE (X : Cx) (e : Expr) (t : TE) : Prop :=
  ∀ (pins : List (Addr × Obj)) (s : Shared) (σ : St) (H : Hp) (Q : VK), Inv X pins σ H s → t σ H Q → wpAny (model X.prog X.w) X.A (eval e X.env) (EP X pins σ Q) X.xe s
def PT (X : Cx) (e : Expr) (t : TT) : Prop :=
  ∀ (pins : List (Addr × Obj)) (s : Shared) (σ : St) (H : Hp) (Q : Bool → Hp → Prop), Inv X pins σ H s → t σ H Q → wpAny (model X.prog X.w) X.A (isTrue e X.env (eval e X.env)) (TP X pins σ Q) X.xe s
/-- a test whatever its 'whole' is (and, or) -/
def PW (X : Cx) (e : Expr) (t : TT) : Prop :=
  ∀ (whole : Sem Value) (pins : List (Addr × Obj)) (s : Shared) (σ : St) (H : Hp) (Q : Bool → Hp → Prop), Inv X pins σ H s → t σ H Q → wpAny (model X.prog X.w) X.A (isTrue e X.env whole) (TP X pins σ Q) X.xe s
theorem PW.pt {X : Cx} {e : Expr} {t : TT} (h : PW X e t) : PT X e t := h _
/-- an argument list (no star), from the left -/
def PA (X : Cx) (es : List Expr) (t : TA) : Prop :=
  ∀ (pos : Pos) (pins : List (Addr × Obj)) (s : Shared) (σ : St) (H : Hp) (Q : List V → Hp → Prop), Inv X pins σ H s → t σ H Q → wpAny (model X.prog X.w) X.A (spliced (backTo pos (starEach es X.env))) (AP X pins σ Q) X.xe s
def PS (X : Cx) (st : Stmt) (t : TS) : Prop :=
  ∀ (pins : List (Addr × Obj)) (s : Shared) (σ : St) (H : Hp) (D : Ends), Inv X pins σ H s → t D σ H → wpAny (model X.prog X.w) X.A (exec st X.env) (SP X pins D) X.xe s
def PSs (X : Cx) (st : List Stmt) (t : TS) : Prop :=
  ∀ (pins : List (Addr × Obj)) (s : Shared) (σ : St) (H : Hp) (D : Ends), Inv X pins σ H s → t D σ H → wpAny (model X.prog X.w) X.A (execs st X.env) (SP X pins D) X.xe s
/-- weaken the end -/
theorem thn {α : Type} {t : Sem α} {Q Q' : α → Shared → Prop} {M : Model} {A : Around} {E : Value → Shared → Prop} {s : Shared} (h : wpAny M A t Q E s) (hQ : ∀ a s, Q a s → Q' a s) : wpAny M A t Q' E s := wpAny_mono h hQ fun _ _ x => x
end L2

namespace L2
open PySem PySem.Spec PyProof.Rows
section
variable {X : Cx}

def tVar (i : Nat) : TE := fun σ H Q => ∃ v, σ[i]? = some (some v) ∧ Q v H
def tC (v : V) : TE := fun _ H Q => Q v H
theorem pe_var {i : Nat} {x : Str} {pos : Pos} (hN : X.N[i]? = some x) (hv : Vis X.env.scope x) (hd : (x == ("__debug__" : Str)) = false := by decide) (hcd : (x == ("__classdict__" : Str)) = false := by decide) : PE X (.Name x pos) (tVar i) := by
  intro pins s σ H Q I h
  obtain ⟨v, e, h⟩ := h
  obtain ⟨m, hn, hl⟩ := I.loc
  obtain ⟨u, r, l⟩ := hl i x v hN e hv
  have fin : EP X pins σ Q u s := ⟨v, H, I, r, h⟩
  rcases l with ⟨hk, hm⟩ | ⟨hk, c, hc, hcell⟩
  · exact wpAny_Name (wpAny_loadName_local I.ok.kind hk hn hm fin) hd
  · rcases hk with hk | hk
    · exact wpAny_Name (wpAny_loadName_cell I.ok.kind hk hc hcell fin) hd
    · exact wpAny_Name (wpAny_loadName_free I.ok.kind hk hc hcell fin hcd) hd
theorem pe_int {i j pos} : PE X (.Constant (.int i) j pos) (tC (.int i)) := fun _ _ _ H _ I h => wpAny_Constant_int ⟨.int i, H, I.tok _, ⟨_, rfl⟩, h⟩
theorem pe_bl {b j pos} : PE X (.Constant (.bool b) j pos) (tC (.bl b)) := fun _ _ _ H _ I h => Constant_bool ⟨.bl b, H, I, rfl, h⟩
theorem pe_non {j pos} : PE X (.Constant .none j pos) (tC .non) := fun _ _ _ H _ I h => Constant_none ⟨.non, H, I, rfl, h⟩
theorem pe_str {x j pos} : PE X (.Constant (.str x) j pos) (tC (.str x)) := fun _ _ _ H _ I h => Calls.Constant_str ⟨.str x, H, I.tok _, ⟨_, rfl⟩, h⟩
/-- a global name of the def -/
def Gl (X : Cx) (x : Str) : Prop := X.env.kindOf x = some .globalImplicit
theorem ld_glob {E : Value → Shared → Prop} {pins : List (Addr × Obj)} {s : Shared} {σ : St} {H : Hp} {x : Str} {u : Value} {pos : Pos} {Q : Value → Shared → Prop} (I : Inv X pins σ H s) (hg : Gl X x) (hm : X.mg x = some u) (h : Q u s)
    (hd : (x == ("__debug__" : Str)) = false := by decide) : wpAny (model X.prog X.w) X.A (eval (.Name x pos) X.env) Q E s :=
  Calls.Name_function_global I.ok.kind hg (Calls.loadGlobal_global (by rw [I.ok.glob]; exact I.mod.glob.keeps I.bk) hm h) hd
theorem ld_blt {E : Value → Shared → Prop} {pins : List (Addr × Obj)} {s : Shared} {σ : St} {H : Hp} {x : Str} {u : Value} {pos : Pos} {Q : Value → Shared → Prop} (I : Inv X pins σ H s) (hg : Gl X x) (hm : X.mg x = none) (hv : bootBuiltins x = some u) (h : Q u s)
    (hn : x ≠ "__name__" := by decide) (hd : (x == ("__debug__" : Str)) = false := by decide) : wpAny (model X.prog X.w) X.A (eval (.Name x pos) X.env) Q E s := by
  obtain ⟨mb, h1, h2⟩ := I.mod.blt
  exact Calls.Name_function_global I.ok.kind hg (Calls.loadGlobal_builtin (by rw [I.ok.glob]; exact I.mod.glob.keeps I.bk) hm (by rw [I.ok.blt]; exact h1.keeps I.bk) ((h2 x hn).trans hv) h) hd
/-- a module's constant, a class, a function, as a value -/
theorem pe_glob {x : Str} {v : V} {u : Value} {pos : Pos} (hg : Gl X x) (hm : X.mg x = some u) (r : RelV v u) (hd : (x == ("__debug__" : Str)) = false := by decide) : PE X (.Name x pos) (tC v) :=
  fun _ _ _ H _ I h => ld_glob I hg hm ⟨v, H, I, r, h⟩ hd
theorem pe_bltn {x : Str} {v : V} {u : Value} {pos : Pos} (hg : Gl X x) (hm : X.mg x = none) (hv : bootBuiltins x = some u) (r : RelV v u) (hn : x ≠ "__name__" := by decide) (hd : (x == ("__debug__" : Str)) = false := by decide) : PE X (.Name x pos) (tC v) :=
  fun _ _ _ H _ I h => ld_blt I hg hm hv ⟨v, H, I, r, h⟩ hn hd
variable {a b : Expr} {ta tb : TE} {pos : Pos}
def PC (X : Cx) (op : CmpOp) (a b : Expr) (t : TE) : Prop :=
  ∀ (pins : List (Addr × Obj)) (s : Shared) (σ : St) (H : Hp) (Q : VK), Inv X pins σ H s → t σ H Q →
    wpAny (model X.prog X.w) X.A (eval a X.env) (fun v s₁ => wpAny (model X.prog X.w) X.A (eval b X.env) (fun u s₂ => wpAny (model X.prog X.w) X.A (compareOp op v u) (EP X pins σ Q) X.xe s₂) X.xe s₁) X.xe s
theorem nobehind (b : Expr) {op : CmpOp} (h : op ≠ .In) (h2 : op ≠ .NotIn) : behindInMarks op b = false := by
  have e1 : (op == CmpOp.In) = false := by cases op <;> first | rfl | exact absurd rfl h
  have e2 : (op == CmpOp.NotIn) = false := by cases op <;> first | rfl | exact absurd rfl h2
  cases b <;> simp [behindInMarks, e1, e2]
/-- is None -/
def tIsN (ta : TE) : TE := fun σ H Q => ta σ H fun x H1 => Q (.bl (decide (x = .non))) H1
theorem RelV.none_iff {x : V} {v : Value} (r : RelV x v) : (v == Value.none) = decide (x = .non) := by
  cases x with
  | non => cases r; rfl
  | bl _ => cases r; rfl
  | int _ => obtain ⟨t, rfl⟩ := r; rfl
  | str _ => obtain ⟨t, rfl⟩ := r; rfl
  | byt _ => obtain ⟨t, rfl⟩ := r; rfl
  | flt _ => obtain ⟨t, rfl⟩ := r; rfl
  | ref _ => cases r; rfl
  | ty _ => cases r; rfl
theorem pc_isN {j pos'} (ha : PE X a ta) : PC X .Is a (.Constant .none j pos') (tIsN ta) := by
  intro pins s σ H Q I h
  refine thn (ha pins s σ H _ I h) fun v s1 ⟨x, H1, I1, r1, q1⟩ => ?_
  exact Constant_none (is_none_gen ⟨.bl _, H1, I1, by rw [r1.none_iff]; rfl, q1⟩)
/-- a comparison as a value, as a test -/
def tB (t : TE) : TT := fun σ H Q => t σ H fun x H1 => ∃ c, x = .bl c ∧ Q c H1
theorem pt_cmp {op : CmpOp} {t : TE} (h : PC X op a b t) (h1 : behindInMarks op b = false := by first | exact nobehind _ (by decide) (by decide) | rfl) : PT X (.Compare a [op] [b] pos) (tB t) := by
  intro pins s σ H Q I hw
  refine wpAny_isTrue_Compare1 (thn (h pins s σ H _ I hw) fun v s1 h1 => thn h1 fun u s2 h2 => thn h2 fun c s3 ⟨x, H1, I1, r1, q1⟩ => ?_) h1
  obtain ⟨d, rfl, q⟩ := q1
  cases r1
  exact wpAny_truthy_bool ⟨H1, I1, q⟩
/-- an expression whose value is a bool, as a test -/
theorem pt_val {e : Expr} {t : TE} (h : PE X e t) (he : ∀ whole, isTrue e X.env whole = (do let v ← whole; standAt e.pos; holding [v] (truthy v)) := by intro _; rfl) : PT X e (tB t) := by
  intro pins s σ H Q I hw
  refine isTrue_plain (thn (h pins s σ H _ I hw) fun v s1 ⟨x, H1, I1, r1, q1⟩ => ?_) (he _)
  obtain ⟨d, rfl, q⟩ := q1
  cases r1
  exact wpAny_truthy_bool ⟨H1, I1, q⟩
variable {tA tB' : TT} {rest : List Expr}
def tAnd (t u : TT) : TT := fun σ H Q => t σ H fun c H1 => if c = true then u σ H1 Q else Q false H1
def tOr (t u : TT) : TT := fun σ H Q => t σ H fun c H1 => if c = true then Q true H1 else u σ H1 Q
def tNot (t : TT) : TT := fun σ H Q => t σ H fun c H1 => Q (!c) H1
theorem pw_and1 (ha : PT X a tA) : PW X (.BoolOp .And [a] pos) tA := by
  intro wh pins s σ H Q I h
  refine isTrue_and (thn (ha pins s σ H Q I h) fun c s1 e => ?_)
  cases c with
  | true => exact isTrue_and_nil e
  | false => exact e
theorem pw_or1 (ha : PT X a tA) : PW X (.BoolOp .Or [a] pos) tA := by
  intro wh pins s σ H Q I h
  refine isTrue_or (thn (ha pins s σ H Q I h) fun c s1 e => ?_)
  cases c with
  | false => exact isTrue_or_nil e
  | true => exact e
theorem pw_and (ha : PT X a tA) (hb : PW X (.BoolOp .And (b :: rest) pos) tB') : PW X (.BoolOp .And (a :: b :: rest) pos) (tAnd tA tB') := by
  intro wh pins s σ H Q I h
  refine isTrue_and (thn (ha pins s σ H _ I h) fun c s1 ⟨H1, I1, q1⟩ => ?_)
  cases c with
  | true => exact hb wh pins s1 σ H1 Q I1 q1
  | false => exact ⟨H1, I1, q1⟩
theorem pw_or (ha : PT X a tA) (hb : PW X (.BoolOp .Or (b :: rest) pos) tB') : PW X (.BoolOp .Or (a :: b :: rest) pos) (tOr tA tB') := by
  intro wh pins s σ H Q I h
  refine isTrue_or (thn (ha pins s σ H _ I h) fun c s1 ⟨H1, I1, q1⟩ => ?_)
  cases c with
  | true => exact ⟨H1, I1, q1⟩
  | false => exact hb wh pins s1 σ H1 Q I1 q1
theorem pt_not (ha : PT X a tA) : PT X (.UnaryOp .Not a pos) (tNot tA) := by
  intro pins s σ H Q I h
  exact isTrue_not (ha pins s σ H (fun c H1 => Q (!c) H1) I h)
/-- .. as values (bools) -/
def tAndV (ta tb : TE) : TE := fun σ H Q => ta σ H fun x H1 => ∃ c, x = .bl c ∧ if c = true then tb σ H1 Q else Q (.bl false) H1
def tNotV (ta : TE) : TE := fun σ H Q => ta σ H fun x H1 => ∃ c, x = .bl c ∧ Q (.bl (!c)) H1
theorem pe_one {op} {t : TE} (h : PE X a t) : PE X (.BoolOp op [a] pos) t := fun pins s σ H Q I hw => BoolOp_one (h pins s σ H Q I hw)
theorem pe_and (ha : PE X a ta) (hb : PE X (.BoolOp .And (b :: rest) pos) tb) : PE X (.BoolOp .And (a :: b :: rest) pos) (tAndV ta tb) := by
  intro pins s σ H Q I h
  refine BoolOp_and (thn (ha pins s σ H _ I h) fun v s1 ⟨x, H1, I1, r1, q1⟩ => ?_)
  obtain ⟨c, rfl, q1⟩ := q1
  cases r1
  refine wpAny_truthy_bool ?_
  cases c with
  | true => exact hb pins s1 σ H1 Q I1 q1
  | false => exact ⟨.bl false, H1, I1, rfl, q1⟩
theorem pe_not (ha : PE X a ta) : PE X (.UnaryOp .Not a pos) (tNotV ta) := by
  intro pins s σ H Q I h
  refine UnaryOp_ (thn (ha pins s σ H _ I h) fun v s1 ⟨x, H1, I1, r1, q1⟩ => ?_)
  obtain ⟨c, rfl, q1⟩ := q1
  cases r1
  exact not_of (wpAny_truthy_bool ⟨.bl (!c), H1, I1, rfl, q1⟩)
end
end L2

namespace L2
open PySem PySem.Spec PyProof.Rows

def SqL (K : PySem.W.Frag) (H : Hp) (a : Addr) (xs : List V) : Prop :=
  Rd H a (.lst xs) ∨
    ∃ (o : Obj) (its : Array Value) (n : Nat), K.lookup a = some o ∧ o.cls = .type "list" ∧ o.dict = none ∧ o.data = .seq its n ∧ its.size ≤ sizeLine ∧ Vals xs its.toList
def SqT (K : PySem.W.Frag) (H : Hp) (a : Addr) (xs : List V) : Prop :=
  Rd H a (.tup xs) ∨
    ∃ (o : Obj) (its : Array Value) (n : Nat), K.lookup a = some o ∧ o.cls = .type "tuple" ∧ o.data = .seq its n ∧ its.size ≤ sizeLine ∧ Vals xs its.toList
def absV : Value → Option V
  | .none => some .non
  | .bool b => some (.bl b)
  | .int i _ => some (.int i)
  | .str x _ => some (.str x)
  | .bytes b _ => some (.byt b)
  | .float b _ => some (.flt b)
  | .ref a => some (.ref a)
  | .type n => some (.ty n)
  | _ => none
theorem RelV.abs {x : V} {u : Value} (r : RelV x u) : absV u = some x := by
  cases x with
  | non => cases r; rfl
  | bl _ => cases r; rfl
  | int _ => obtain ⟨t, rfl⟩ := r; rfl
  | str _ => obtain ⟨t, rfl⟩ := r; rfl
  | byt _ => obtain ⟨t, rfl⟩ := r; rfl
  | flt _ => obtain ⟨t, rfl⟩ := r; rfl
  | ref _ => cases r; rfl
  | ty _ => cases r; rfl
theorem RelV.inj {x y : V} {u : Value} (r : RelV x u) (q : RelV y u) : x = y := Option.some.inj (r.abs.symm.trans q.abs)
theorem Vals.inj : ∀ {xs ys : List V} {us : List Value}, Vals xs us → Vals ys us → xs = ys
  | _, _, _, .nil, .nil => rfl
  | _, _, _, .cons r t, .cons r' t' => by rw [r.inj r', Vals.inj t t']
section
variable {X : Cx} {pins : List (Addr × Obj)} {σ : St} {H : Hp} {s : Shared} {a : Addr} {xs ys : List V}
theorem SqL.of {K : PySem.W.Frag} (h : H a = some (.lst xs)) : SqL K H a xs := .inl (.inl h)
theorem SqT.of {K : PySem.W.Frag} (h : H a = some (.tup xs)) : SqT K H a xs := .inl (.inl h)
theorem Inv.list (I : Inv X pins σ H s) (h : SqL X.K H a xs) : ∃ its : List Value, Vals xs its ∧ PlainL s.heap a its.toArray ∧ xs.length ≤ sizeLine := by
  rcases h with h | ⟨o, its, n, hk, hc, hd, hs, hz, r⟩
  · obtain ⟨z, its, n, r, e⟩ := h.ok I.hok
    exact ⟨its, r, ⟨_, n, e, rfl, rfl, rfl⟩, z⟩
  · refine ⟨its.toList, r, ⟨o, n, I.kIn a o hk, hc, hd, by simpa using hs⟩, ?_⟩
    have e := r.length
    simp only [Array.length_toList] at e
    omega
theorem Inv.tuple (I : Inv X pins σ H s) (h : SqT X.K H a xs) : ∃ its : List Value, Vals xs its ∧ IsTup s.heap a its.toArray ∧ xs.length ≤ sizeLine := by
  rcases h with h | ⟨o, its, n, hk, hc, hs, hz, r⟩
  · obtain ⟨z, its, r, p⟩ := h.ok I.hok
    exact ⟨its, r, p, z⟩
  · refine ⟨its.toList, r, ⟨o, I.kIn a o hk, hc, n, by simpa using hs⟩, ?_⟩
    have e := r.length
    simp only [Array.length_toList] at e
    omega
end

abbrev Cx.wish (X : Cx) (E : Value → Shared → Prop) : Cx := { X with xe := E }
/-- no exception leaves -/
abbrev Cx.nox (X : Cx) : Cx := X.wish fun _ _ => False
theorem Cx.Ok.wish {X : Cx} (ok : X.Ok) (E : Value → Shared → Prop) : (X.wish E).Ok :=
  ⟨ok.mod, ok.kind, ok.glob, ok.blt, ok.above, ok.inj, ok.has, ok.cab, ok.hd, ok.frames, ok.stk, ok.exf, ok.bs, ok.bsz, ok.noex, ok.exfs, ok.funs, ok.frf⟩
theorem Cx.Ok.unwish {X : Cx} {E : Value → Shared → Prop} (ok : (X.wish E).Ok) : X.Ok :=
  ⟨ok.mod, ok.kind, ok.glob, ok.blt, ok.above, ok.inj, ok.has, ok.cab, ok.hd, ok.frames, ok.stk, ok.exf, ok.bs, ok.bsz, ok.noex, ok.exfs, ok.funs, ok.frf⟩
section
variable {X : Cx} {pins : List (Addr × Obj)} {σ : St} {H : Hp} {s : Shared} {E : Value → Shared → Prop}
theorem Inv.wish (I : Inv X pins σ H s) (E : Value → Shared → Prop) : Inv (X.wish E) pins σ H s := ⟨I.ok.wish E, I.os, I.bare, I.base, I.loc, I.cell, I.free, I.freeC, I.pin, I.hok, I.len⟩
theorem Inv.unwish (I : Inv (X.wish E) pins σ H s) : Inv X pins σ H s := ⟨I.ok.unwish, I.os, I.bare, I.base, I.loc, I.cell, I.free, I.freeC, I.pin, I.hok, I.len⟩
theorem SP.unwish {D : Ends} {f : Flow} {s' : Shared} (h : SP (X.wish E) pins D f s') : SP X pins D f s' := by
  cases f with
  | next => obtain ⟨σ', H', I, q⟩ := h; exact ⟨σ', H', I.unwish, q⟩
  | brk => obtain ⟨σ', H', I, q⟩ := h; exact ⟨σ', H', I.unwish, q⟩
  | cont => obtain ⟨σ', H', I, q⟩ := h; exact ⟨σ', H', I.unwish, q⟩
  | ret u => obtain ⟨v, σ', H', I, r, q⟩ := h; exact ⟨v, σ', H', I.unwish, r, q⟩
theorem PE.nox {e : Expr} {t : TE} (h : PE X.nox e t) : PE X e t := fun pins s σ H Q I hw =>
  wpAny_mono (h pins s σ H Q (I.wish _) hw) (fun _ _ ⟨v, H', I', r, q⟩ => ⟨v, H', I'.unwish, r, q⟩) fun _ _ z => False.elim z
theorem PT.nox {e : Expr} {t : TT} (h : PT X.nox e t) : PT X e t := fun pins s σ H Q I hw =>
  wpAny_mono (h pins s σ H Q (I.wish _) hw) (fun _ _ ⟨H', I', q⟩ => ⟨H', I'.unwish, q⟩) fun _ _ z => False.elim z
theorem PSs.nox {st : List Stmt} {t : TS} (h : PSs X.nox st t) : PSs X st t := fun pins s σ H D I hw =>
  wpAny_mono (h pins s σ H D (I.wish _) hw) (fun _ _ q => q.unwish) fun _ _ z => False.elim z
end

section
variable {X : Cx} {st : Stmt} {rest : List Stmt} {t u : TS} {e : Expr} {te : TE} {pos : Pos}
def tNext : TS := fun D σ H => D.nx σ H
def tSeq (t u : TS) : TS := fun D σ H => t { D with nx := u D } σ H
theorem pss_nil : PSs X [] tNext := fun _ _ σ H _ I h => wpAny_execs_nil ⟨σ, H, I, h⟩
theorem pss_cons (h1 : PS X st t) (h2 : PSs X rest u) : PSs X (st :: rest) (tSeq t u) := by
  intro pins s σ H D I h
  refine wpAny_execs_cons (thn (h1 pins s σ H { D with nx := u D } I h) fun f s1 q => ?_)
  cases f with
  | next =>
    obtain ⟨σ', H', I', q⟩ := q
    exact h2 pins s1 σ' H' D I' q
  | ret v => exact q
  | brk => exact q
  | cont => exact q
theorem pss_one (h1 : PS X st t) : PSs X [st] t := by
  intro pins s σ H D I h
  refine wpAny_execs_cons (thn (h1 pins s σ H D I h) fun f s1 q => ?_)
  cases f with
  | next => exact wpAny_execs_nil q
  | ret v => exact q
  | brk => exact q
  | cont => exact q
/-- in a def's body nothing is shown -/
theorem Inv.quiet {pins : List (Addr × Obj)} {σ : St} {H : Hp} {s : Shared} (I : Inv X pins σ H s) : interactive X.env = false := by simp [interactive, I.ok.kind]
/-- an expression whose value is dropped -/
def tDrop (te : TE) : TS := fun D σ H => te σ H fun _ H1 => D.nx σ H1
theorem ps_expr (he : PE X e te) (hs : swapsWith e none pos.line X.env = pure false := by rfl) : PS X (.Expr e pos) (tDrop te) := by
  intro pins s σ H D I h
  exact wpAny_Expr_any (thn (he pins s σ H _ I h) fun v s1 ⟨x, H1, I1, r1, q1⟩ => ⟨σ, H1, I1, q1⟩) I.quiet hs
def tRet (te : TE) : TS := fun D σ H => te σ H D.rt
theorem ps_ret (he : PE X e te) : PS X (.Return (some e) pos) (tRet te) := by
  intro pins s σ H D I h
  exact wpAny_Return_some (thn (he pins s σ H _ I h) fun v s1 ⟨x, H1, I1, r1, q1⟩ => ⟨x, σ, H1, I1, r1, q1⟩)
def tIfS (c : TT) (t u : TS) : TS := fun D σ H => c σ H fun b H1 => if b = true then t D σ H1 else u D σ H1
theorem ps_if {c : Expr} {a b : List Stmt} {tc : TT} (hc : PT X c tc) (ha : PSs X a t) (hb : PSs X b u) : PS X (.If c a b pos) (tIfS tc t u) := by
  intro pins s σ H D I h
  refine wpAny_If (thn (hc pins s σ H _ I h) fun d s1 ⟨H1, I1, q1⟩ => ?_)
  cases d with
  | true => exact ha pins s1 σ H1 D I1 q1
  | false => exact hb pins s1 σ H1 D I1 q1
end

abbrev TG := V → St → Hp → (St → Hp → Prop) → Prop
def PG (X : Cx) (target : Expr) (t : TG) : Prop :=
  ∀ (pins : List (Addr × Obj)) (s : Shared) (σ : St) (H : Hp) (v : V) (u : Value) (Q : St → Hp → Prop), Inv X pins σ H s → RelV v u → t v σ H Q →
    wpAny (model X.prog X.w) X.A (assign target X.env u) (fun _ s' => ∃ σ' H', Inv X pins σ' H' s' ∧ Q σ' H') X.xe s
section
variable {X : Cx} {pos : Pos}
def gName (i : Nat) : TG := fun v σ H Q => Q (σ.set i (some v)) H
theorem pg_name {i : Nat} {x : Str} (hN : X.N.Nodup) (hi : X.N[i]? = some x) (hx : Loc X.env.scope x) (hf : X.fn x = true ∨ X.env.scope.names.lookup x = some .local := by first | exact .inl rfl | exact .inr rfl | assumption) : PG X (.Name x pos) (gName i) := by
  intro pins s σ H v u Q I r h
  exact wpAny_assign_Name (store_ok I hN hi hx r (fun s' I' => ⟨_, H, I', h⟩) hf)
/-- target = value -/
def tAsg (te : TE) (g : TG) : TS := fun D σ H => te σ H fun x H1 => g x σ H1 D.nx
/-- name = value -/
theorem ps_set {i : Nat} {x : Str} {e : Expr} {te : TE} {pos' : Pos} (hN : X.N.Nodup) (hi : X.N[i]? = some x) (hx : Loc X.env.scope x) (he : PE X e te) (hs : swapsWith e (some (.Name x pos')) pos.line X.env = pure false := by rfl) (hf : X.fn x = true ∨ X.env.scope.names.lookup x = some .local := by first | exact .inl rfl | exact .inr rfl | assumption) :
    PS X (.Assign [.Name x pos'] e pos) (tAsg te (gName i)) := by
  intro pins s σ H D I h
  refine wpAny_Assign_Name (thn (he pins s σ H _ I h) fun v s1 ⟨y, H1, I1, r1, q1⟩ => ?_) hs
  exact store_ok I1 hN hi hx r1 (fun s2 I2 => ⟨_, H1, I2, q1⟩) hf
end

section
variable {X : Cx} {pos : Pos}
end

/-- at turn i: it yields x (the heap may grow), or it stops -/
structure It where
  go : Nat → Hp → Prop
  yld : Nat → Hp → V → Hp → Prop
  stop : Nat → Hp → Prop
/-- the iterator's own objects may turn: they are not the frame's, not pinned, younger than the entry (or a comprehension's own) -/
def FpOk (X : Cx) (pins : List (Addr × Obj)) (H : Hp) (b : Addr) : Prop :=
  H b = none ∧ b ≠ X.env.locals ∧ b ∉ X.fs ∧ (b ∈ X.ex ∨ X.s₀.heap.objs.size ≤ b) ∧ (∀ x c, X.env.cells.lookup x = some c → c ≠ b) ∧ ∀ p ∈ X.pn ++ pins, p.1 ≠ b
theorem Inv.fpOk {X : Cx} {pins : List (Addr × Obj)} {σ : St} {H H' : Hp} {s : Shared} {b : Addr} (I : Inv X pins σ H s) (hb : s.heap.objs.size ≤ b) (hn : H' b = none) : FpOk X pins H' b := by
  refine ⟨hn, Nat.ne_of_gt (Nat.lt_of_lt_of_le I.lt hb), I.nofs hb, .inr (Nat.le_trans I.sz hb), fun x c e z => ?_, fun p hp z => ?_⟩
  · obtain ⟨v, q⟩ := I.cell x c e
    exact absurd (Nat.lt_of_lt_of_le q.lt (by rw [z]; exact hb)) (Nat.lt_irrefl _)
  · exact absurd (Nat.lt_of_lt_of_le (Heap.lt_size (I.pin p hp).1) (by rw [z]; exact hb)) (Nat.lt_irrefl _)
structure Turn (P : Program) (w : World) (K : PySem.W.Frag) (tg : Expr) (J : It) (fp : List Addr) (it : Addr) (tn : Nat → Heap → Prop) : Prop where
  mem : it ∈ fp
  obj : ∀ i h, tn i h → ∀ b ∈ fp, ∃ o, h.get? b = some o ∧ ∀ v, o.data ≠ .cell v
  keep : ∀ i h h', tn i h → (∀ b ∈ fp, ∀ o, h.get? b = some o → h'.get? b = some o) → tn i h'
  item : ∀ (X : Cx), X.prog = P → X.w = w → X.K = K → X.calm = true → ∀ (i : Nat) (pins : List (Addr × Obj)) (s : Shared) (σ : St) (H : Hp) (E : Value → Shared → Prop), Inv X pins σ H s → (∀ b ∈ fp, FpOk X pins H b) → tn i s.heap → J.go i H →
    wpAny (model P w) X.A (pyNext (.ref it)) (fun r s1 => ∃ u, r = some u ∧
      wpAny (model P w) X.A (letOwnedTupleGo tg (.ref it) u) (fun _ s2 => ∃ x H', Inv X pins σ H' s2 ∧ RelV x u ∧ J.yld i H x H' ∧ tn (i + 1) s2.heap ∧ ∀ b ∈ fp, H' b = none) E s1) E s
  done : ∀ (X : Cx), X.prog = P → X.w = w → X.K = K → X.calm = true → ∀ (i : Nat) (pins : List (Addr × Obj)) (s : Shared) (σ : St) (H : Hp) (E : Value → Shared → Prop), Inv X pins σ H s → (∀ b ∈ fp, FpOk X pins H b) → tn i s.heap → J.stop i H →
    wpAny (model P w) X.A (pyNext (.ref it)) (fun r s1 => r = none ∧ Inv X pins σ H s1) E s
  self : ∀ (A : Around) (i : Nat) (s : Shared) (Q : Value → Shared → Prop) (E : Value → Shared → Prop), tn i s.heap → Q (.ref it) s → wpAny (model P w) A (pyIter (.ref it)) Q E s
abbrev TI := St → Hp → (It → Hp → Prop) → Prop
/-- an iterator has come -/
def PIE (X : Cx) (pins : List (Addr × Obj)) (σ : St) (tg : Expr) (R : It → Hp → Prop) (itv : Value) (s2 : Shared) : Prop :=
  ∃ (it : Addr) (fp : List Addr) (tn : Nat → Heap → Prop) (J : It) (H' : Hp), itv = .ref it ∧ Inv X pins σ H' s2 ∧ Turn X.prog X.w X.K tg J fp it tn ∧ tn 0 s2.heap ∧ (∀ b ∈ fp, FpOk X pins H' b) ∧ R J H'
def PI (X : Cx) (tg iter : Expr) (wi : TI) : Prop :=
  ∀ (pins : List (Addr × Obj)) (s : Shared) (σ : St) (H : Hp) (R : It → Hp → Prop), Inv X pins σ H s → wi σ H R →
    wpAny (model X.prog X.w) X.A (eval iter X.env) (fun v s1 => wpAny (model X.prog X.w) X.A (pyIter v) (PIE X pins σ tg R) X.xe s1) X.xe s
/-- the step ahead of the store is nothing for an iterator that keeps no tuple -/
theorem go_of {M : Model} {A : Around} {E : Value → Shared → Prop} {s : Shared} {tg : Expr} {it : Addr} {u : Value} {o : Obj} {n : String} {vs : Array Value} {Q : Unit → Shared → Prop} (ho : s.heap.get? it = some o) (hc : o.cls = .type n) (hd : o.data = .fields vs)
    (hn : ["enumerate", "zip", "dict_itemiterator", "dict_reverseitemiterator", "odict_iterator", "itertools.zip_longest", "itertools.pairwise"].contains n = false) (hQ : Q () s) : wpAny M A (letOwnedTupleGo tg (.ref it) u) Q E s := by
  unfold letOwnedTupleGo
  cases tg <;> first
    | exact wpAny_pure hQ
    | (cases u <;> first
        | exact wpAny_pure hQ
        | (refine wpAny_bind (wpAny_load ho ?_)
           rw [hc, hd]
           show wpAny M A (if (["enumerate", "zip", "dict_itemiterator", "dict_reverseitemiterator", "odict_iterator", "itertools.zip_longest", "itertools.pairwise"].contains n && vs[0]? == some (rawInt _)) = true then _ else _) Q E s
           rw [if_neg (by intro h; rw [hn, Bool.false_and] at h; cases h)]
           exact wpAny_pure hQ))
/-- lo, lo + 1, .. (n of them) -/
def Itr (lo : Int) (n : Nat) : It := ⟨fun i _ => i < n, fun i H x H' => H' = H ∧ x = .int (lo + i), fun i _ => n ≤ i⟩
theorem turn_range {P : Program} {w : World} {K : PySem.W.Frag} {tg : Expr} (it : Addr) (lo : Int) (n : Nat) : Turn P w K tg (Itr lo n) [it] it (fun i h => IsRangeIter h it (lo + (i : Nat) * 1) ((n : Int) - (i : Nat)) 1) where
  mem := by simp
  obj := fun i h st b hb => by
    have e : b = it := by simpa using hb
    subst e
    exact ⟨_, st, fun v z => by
      have z' : Data.fields _ = Data.cell v := z
      cases z'⟩
  keep := fun i h h' st k => k it (by simp) _ st
  item := by
    intro X hP hw hK hc i pins s σ H E I hf st hg
    subst hP hw hK
    obtain ⟨f0, f1, f2, f3, f4, f5⟩ := hf it (by simp)
    have W := Walks.range (prog := X.prog) (w := X.w) (I.ok.hd hc) it lo 1 n
    refine W.item i s _ _ hg st fun v h' tk hv st' kk => ?_
    obtain ⟨t, rfl⟩ := hv
    have I1 : Inv X pins σ H { s with heap := h', toks := tk } := I.turned (fun b o hb e => kk b o (by simpa using hb) e) f0 f1 f3 f4 f5
    refine ⟨_, rfl, go_of (s := { s with heap := h', toks := tk }) (n := "range_iterator") st' rfl rfl (by decide) ⟨.int (lo + i), H, I1, ⟨t, ?_⟩, ⟨rfl, rfl⟩, st', fun b hb => (hf b hb).1⟩⟩
    rw [Int.mul_one]
  done := by
    intro X hP hw hK hc i pins s σ H E I hf st hg
    subst hP hw hK
    obtain ⟨f0, f1, f2, f3, f4, f5⟩ := hf it (by simp)
    exact wpAny_pyNext_range_end (I.ok.hd hc) st (by have : n ≤ i := hg; omega) fun h' eb => ⟨rfl, I.turned (t' := s.toks) (fun b o hb e => eb b o hb e) f0 f1 f3 f4 f5⟩
  self := fun _ _ _ _ _ st h => wpAny_pyIter_rangeiter st h
end L2

namespace L2
open PySem PySem.Spec PyProof.Rows
section
variable {X : Cx} {tg : Expr}
/-- a range object just made, walked -/
theorem range_it {pins : List (Addr × Obj)} {σ : St} {H : Hp} {s : Shared} {R : It → Hp → Prop} {E : Value → Shared → Prop} {lo hi : Int} {t u v : Tok} {tk : Nat} (I : Inv X pins σ H s) (h1 : -(2 ^ 62) ≤ lo) (h2 : lo < 2 ^ 62) (h3 : -(2 ^ 62) ≤ hi) (h4 : hi < 2 ^ 62)
    (q : R (Itr lo (hi - lo).toNat) H) : wpAny (model X.prog X.w) X.A (pyIter (.ref s.heap.objs.size)) (PIE X pins σ tg R) E { s with heap := s.heap.push { cls := .type "range", data := .fields #[.int lo t, .int hi u, .int 1 v] }, toks := tk } := by
  refine wpAny_pyIter_range (IsRange.new ..) (small_one h1 h2 h3 h4) ?_
  have I1 : Inv X pins σ H { s with heap := s.heap.push { cls := .type "range", data := .fields #[.int lo t, .int hi u, .int 1 v] }, toks := tk } := I.kept fun b o e => Heap.get?_push_of_some _ e
  refine ⟨(s.heap.push { cls := .type "range", data := .fields #[.int lo t, .int hi u, .int 1 v] }).objs.size, [(s.heap.push { cls := .type "range", data := .fields #[.int lo t, .int hi u, .int 1 v] }).objs.size], _, _, H, rfl,
    I1.kept (t' := tk) fun b o e => Heap.get?_push_of_some _ e, turn_range _ lo (hi - lo).toNat, ?_, fun b hb => ?_, q⟩
  · have e1 : lo + ((0 : Nat) : Int) * 1 = lo := by simp
    have e2 : (((hi - lo).toNat : Nat) : Int) - ((0 : Nat) : Int) = Builtin.Range.rangeSize lo hi 1 := by rw [rangeSize_one]; split <;> omega
    show IsRangeIter _ _ (lo + ((0 : Nat) : Int) * 1) ((((hi - lo).toNat : Nat) : Int) - ((0 : Nat) : Int)) 1
    rw [e1, e2]
    exact Heap.get?_push_size _ rfl
  · have e : b = (s.heap.push { cls := .type "range", data := .fields #[.int lo t, .int hi u, .int 1 v] }).objs.size := by simpa using hb
    subst e
    exact I1.fpOk (Nat.le_refl _) (I1.hok.fresh (Nat.le_refl _))
def iRng1 (ta : TA) : TI := fun σ H R => ta σ H fun vs H1 => ∃ j : Int, vs = [.int j] ∧ -(2 ^ 62) ≤ j ∧ j < 2 ^ 62 ∧ R (Itr 0 j.toNat) H1
theorem pi_range1 {a : Expr} {ta : TA} {p pos : Pos} (hg : Gl X "range") (hm : X.mg "range" = none) (ha : PA X [a] ta) (hs : starEach [a] X.env = [(false, eval a X.env)] := by rfl) : PI X tg (.Call (.Name "range" p) [a] [] pos) (iRng1 ta) := by
  intro pins s σ H R I h
  refine Call_ (ld_blt I hg hm boot_range (PyProof.Rows.callWith_type1 (thn (ha pos pins s σ H _ I h) fun us s1 ⟨vs, H1, I1, r1, q1⟩ => ?_) hs rfl))
  obtain ⟨j, e, q1, q2, q⟩ := q1
  subst e
  cases r1 with
  | cons r rr =>
    cases rr
    obtain ⟨t, rfl⟩ := r
    exact call_range_1 (range_it I1 (by omega) (by omega) q1 q2 (by simpa using q))
/-- W: the invariant by the turn and a measure; N: what the body is to reach -/
def tFor (wi : TI) (g : TG) (tb : TS) : TS := fun D σ H => wi σ H fun J H1 => ∃ W : Nat → Nat → St → Hp → Prop, (∃ m, W 0 m σ H1) ∧ ∀ i m σ H, W i m σ H →
  (J.stop i H ∧ D.nx σ H) ∨ (J.go i H ∧ ∃ N : St → Hp → Prop, (∀ σ' H', N σ' H' → ∃ m', m' < m ∧ W (i + 1) m' σ' H') ∧ ∀ x H', J.yld i H x H' → g x σ H' fun σ2 H2 => tb { D with nx := N, ct := N, bk := D.nx } σ2 H2)
/-- the records at fp as they stand -/
def pinsAt (fp : List Addr) (h : Heap) : List (Addr × Obj) := fp.filterMap fun b => (h.get? b).map fun o => (b, o)
theorem mem_pinsAt {fp : List Addr} {h : Heap} {b : Addr} {o : Obj} (hb : b ∈ fp) (e : h.get? b = some o) : (b, o) ∈ pinsAt fp h := List.mem_filterMap.mpr ⟨b, hb, by rw [e]; rfl⟩
theorem of_pinsAt {fp : List Addr} {h : Heap} {p : Addr × Obj} (hp : p ∈ pinsAt fp h) : p.1 ∈ fp ∧ h.get? p.1 = some p.2 := by
  obtain ⟨b, hb, e⟩ := List.mem_filterMap.mp hp
  cases q : h.get? b with
  | none => rw [q] at e; cases e
  | some o =>
    rw [q] at e
    have e' : (b, o) = p := Option.some.inj e
    subst e'
    exact ⟨hb, q⟩
theorem Inv.pinned {pins : List (Addr × Obj)} {σ : St} {H : Hp} {s : Shared} {fp : List Addr} (I : Inv X pins σ H s) (hf : ∀ b ∈ fp, FpOk X pins H b) (ho : ∀ b ∈ fp, ∃ o, s.heap.get? b = some o ∧ ∀ v, o.data ≠ .cell v) : Inv X (pins ++ pinsAt fp s.heap) σ H s :=
  I.pins_of fun p hp => (List.mem_append.mp hp).elim (fun z => I.pin p (List.mem_append_right _ z)) fun z => by
    obtain ⟨hb, e⟩ := of_pinsAt z
    obtain ⟨f0, f1, f2, _⟩ := hf p.1 hb
    obtain ⟨o, e', d⟩ := ho p.1 hb
    rw [e] at e'; cases e'
    exact ⟨e, f0, f1, f2, d⟩
theorem Inv.unpinned {pins pl : List (Addr × Obj)} {σ : St} {H : Hp} {s : Shared} (I : Inv X (pins ++ pl) σ H s) : Inv X pins σ H s := I.pins_of fun p hp => I.pin p (List.mem_append_right _ (List.mem_append_left _ hp))
theorem ps_for {iter : Expr} {body : List Stmt} {wi : TI} {g : TG} {tb : TS} {pos : Pos} (hp : PassesOwn (model X.prog X.w) X.A X.env X.xe) (hc : X.calm = true) (hi : PI X tg iter wi) (hg : PG X tg g) (hb : PSs X body tb)
    (hs : ∀ x, foldedSetIterable iter X.env x = pure x := by intro _; rfl) : PS X (.For tg iter body [] pos) (tFor wi g tb) := by
  intro pins s σ H D I h
  refine wpAny_For (thn (hi pins s σ H _ I h) fun v s1 h1 => thn h1 fun itv s2 h2 => ?_) hs
  obtain ⟨it, fp, tn, J, H2, e, I2, T, st2, f2, W, ⟨m0, w0⟩, turn⟩ := h2
  subst e
  -- what stays true of the iterator's objects through the loop
  have stat : ∀ {H' : Hp}, (∀ b ∈ fp, H' b = none) → ∀ b ∈ fp, FpOk X pins H' b := fun hn b hb => ⟨hn b hb, (f2 b hb).2⟩
  refine codeAny_forLoop_any (fun n s' => ∃ i σ' H', Inv X pins σ' H' s' ∧ tn i s'.heap ∧ (∀ b ∈ fp, H' b = none) ∧ W i n σ' H') ?_ m0 ⟨0, σ, H2, I2, st2, fun b hb => (f2 b hb).1, w0⟩
  rintro n s3 ⟨i, σ3, H3, I3, st3, fr3, w3⟩
  rcases turn i n σ3 H3 w3 with ⟨stop, qn⟩ | ⟨go, N, hN, step⟩
  · refine wpAny_passesOwn hp (thn (T.done X rfl rfl rfl hc i pins s3 σ3 H3 X.xe I3 (stat fr3) st3 stop) fun r s4 ⟨hr, I4⟩ => ?_)
    subst hr
    exact wpAny_execs_nil ⟨σ3, H3, I4, qn⟩
  · refine wpAny_passesOwn hp (thn (T.item X rfl rfl rfl hc i pins s3 σ3 H3 X.xe I3 (stat fr3) st3 go) fun r s4 ⟨u, hr, h4⟩ => ?_)
    subst hr
    refine wpAny_passesOwn hp (thn h4 fun _ s5 ⟨x, H5, I5, r5, y5, st5, fr5⟩ => ?_)
    have I5' := I5.pinned (stat fr5) (T.obj _ _ st5)
    refine wpAny_passesOwn hp (thn (hg _ s5 σ3 H5 x u _ I5' r5 (step x H5 y5)) fun _ s6 ⟨σ6, H6, I6, q6⟩ => ?_)
    refine wpAny_passesOwn hp (thn (hb _ s6 σ6 H6 _ I6 q6) fun f s7 q7 => ?_)
    have again : ∀ {σ7 : St} {H7 : Hp}, Inv X (pins ++ pinsAt fp s5.heap) σ7 H7 s7 → N σ7 H7 → ∃ m, m < n ∧ ∃ i σ' H', Inv X pins σ' H' s7 ∧ tn i s7.heap ∧ (∀ b ∈ fp, H' b = none) ∧ W i m σ' H' := fun {σ7 H7} I7 n7 => by
      obtain ⟨m', hm, w7⟩ := hN σ7 H7 n7
      refine ⟨m', hm, i + 1, σ7, H7, I7.unpinned, T.keep _ _ _ st5 fun b hb o e => (I7.pin (b, o) (List.mem_append_right _ (List.mem_append_right _ (mem_pinsAt hb e)))).1, fun b hb => ?_, w7⟩
      obtain ⟨o, e, d⟩ := T.obj _ _ st5 b hb
      exact (I7.pin (b, o) (List.mem_append_right _ (List.mem_append_right _ (mem_pinsAt hb e)))).2.1
    cases f with
    | next => obtain ⟨σ7, H7, I7, n7⟩ := q7; exact again I7 n7
    | cont => obtain ⟨σ7, H7, I7, n7⟩ := q7; exact again I7 n7
    | brk => obtain ⟨σ7, H7, I7, q7⟩ := q7; exact ⟨σ7, H7, I7.unpinned, q7⟩
    | ret v => obtain ⟨x7, σ7, H7, I7, r7, q7⟩ := q7; exact ⟨x7, σ7, H7, I7.unpinned, r7, q7⟩
end

theorem for_range {lo : Int} {n : Nat} {g : TG} {tb : TS} {D : Ends} {σ : St} {H : Hp} (Pv : Nat → St → Hp → Prop) (h0 : Pv 0 σ H)
    (hs : ∀ i σ H, i < n → Pv i σ H → g (.int (lo + i)) σ H fun σ2 H2 => tb { D with nx := Pv (i + 1), ct := Pv (i + 1), bk := D.nx } σ2 H2) (hd : ∀ σ H, Pv n σ H → D.nx σ H) :
    ∃ W : Nat → Nat → St → Hp → Prop, (∃ m, W 0 m σ H) ∧ ∀ i m σ H, W i m σ H →
      ((Itr lo n).stop i H ∧ D.nx σ H) ∨ ((Itr lo n).go i H ∧ ∃ N : St → Hp → Prop, (∀ σ' H', N σ' H' → ∃ m', m' < m ∧ W (i + 1) m' σ' H') ∧ ∀ x H', (Itr lo n).yld i H x H' → g x σ H' fun σ2 H2 => tb { D with nx := N, ct := N, bk := D.nx } σ2 H2) := by
  refine ⟨fun i m σ H => m = n - i ∧ i ≤ n ∧ Pv i σ H, ⟨n, by simp, Nat.zero_le _, h0⟩, ?_⟩
  rintro i m σ H ⟨rfl, hi, p⟩
  by_cases hlt : i < n
  · refine .inr ⟨hlt, Pv (i + 1), fun σ' H' p' => ⟨n - (i + 1), by omega, rfl, hlt, p'⟩, fun x H' y => ?_⟩
    obtain ⟨e, y⟩ := y
    subst e y
    exact hs i σ _ hlt p
  · have e : i = n := by omega
    subst e
    exact .inl ⟨Nat.le_refl _, hd σ H p⟩
end L2

namespace L2
open PySem PySem.Spec PyProof.Rows

abbrev R2 := V → V → Hp → VK → Prop
/-- a two-place operation on values: f is binaryOp op, inplaceOp op or compareOp op -/
def OpR (X : Cx) (f : Value → Value → Sem Value) (r : R2) : Prop :=
  ∀ (pins : List (Addr × Obj)) (s : Shared) (σ : St) (H : Hp) (x y : V) (v u : Value) (Q : VK), Inv X pins σ H s → RelV x v → RelV y u → r x y H Q →
    wpAny (model X.prog X.w) X.A (f v u) (EP X pins σ Q) X.xe s
/-- a one-place operation -/
def UnR (X : Cx) (f : Value → Sem Value) (r : V → Hp → VK → Prop) : Prop :=
  ∀ (pins : List (Addr × Obj)) (s : Shared) (σ : St) (H : Hp) (x : V) (v : Value) (Q : VK), Inv X pins σ H s → RelV x v → r x H Q →
    wpAny (model X.prog X.w) X.A (f v) (EP X pins σ Q) X.xe s
/-- a call of a value that is known (a builtin, a type) with values -/
def CallR (X : Cx) (f : Value) (r : List V → Hp → VK → Prop) : Prop :=
  ∀ (pins : List (Addr × Obj)) (s : Shared) (σ : St) (H : Hp) (xs : List V) (us : List Value) (Q : VK), Inv X pins σ H s → Vals xs us → r xs H Q →
    wpAny (model X.prog X.w) X.A (call f us) (EP X pins σ Q) X.xe s
def tOp (r : R2) (ta tb : TE) : TE := fun σ H Q => ta σ H fun x H1 => tb σ H1 fun y H2 => r x y H2 Q
def tUn (r : V → Hp → VK → Prop) (ta : TE) : TE := fun σ H Q => ta σ H fun x H1 => r x H1 Q
/-- ints in, under C, and a value out -/
def rI (C : Int → Int → Prop) (g : Int → Int → V) : R2 := fun x y H Q => ∃ i j, x = .int i ∧ y = .int j ∧ C i j ∧ Q (g i j) H
def rI0 (g : Int → Int → V) : R2 := fun x y H Q => ∃ i j, x = .int i ∧ y = .int j ∧ Q (g i j) H
def rU (g : Int → V) : V → Hp → VK → Prop := fun x H Q => ∃ i, x = .int i ∧ Q (g i) H
section
variable {X : Cx} {a b c : Expr} {ta tb tc : TE} {pos : Pos}

theorem binT (ha : PE X a ta) (hb : PE X b tb) {pins : List (Addr × Obj)} {s : Shared} {σ : St} {H : Hp} {R : V → V → Hp → Prop} (I : Inv X pins σ H s)
    (h : ta σ H fun x H1 => tb σ H1 fun y H2 => R x y H2) {Q : Value → Shared → Prop} {f : Value → Value → Sem Value}
    (hf : ∀ v u s2 x y H2, Inv X pins σ H2 s2 → RelV x v → RelV y u → R x y H2 → wpAny (model X.prog X.w) X.A (f v u) Q X.xe s2) :
    wpAny (model X.prog X.w) X.A (eval a X.env) (fun v s₁ => wpAny (model X.prog X.w) X.A (eval b X.env) (fun u s₂ => wpAny (model X.prog X.w) X.A (f v u) Q X.xe s₂) X.xe s₁) X.xe s := by
  refine thn (ha pins s σ H _ I h) fun v s1 ⟨x, H1, I1, r1, q1⟩ => ?_
  refine thn (hb pins s1 σ H1 _ I1 q1) fun u s2 ⟨y, H2, I2, r2, q2⟩ => ?_
  exact hf v u s2 x y H2 I2 r1 r2 q2
theorem pe_op {op : Operator} {r : R2} (ho : OpR X (binaryOp op) r) (ha : PE X a ta) (hb : PE X b tb) : PE X (.BinOp a op b pos) (tOp r ta tb) := by
  intro pins s σ H Q I h
  exact wpAny_BinOp (binT ha hb I h fun v u s2 x y H2 I2 rx ry q => ho pins s2 σ H2 x y v u Q I2 rx ry q)
theorem pe_un {op : UnaryOp} {r : V → Hp → VK → Prop} (ho : UnR X (unaryOp op) r) (ha : PE X a ta) : PE X (.UnaryOp op a pos) (tUn r ta) := by
  intro pins s σ H Q I h
  exact UnaryOp_ (thn (ha pins s σ H _ I h) fun v s1 ⟨x, H1, I1, r1, q1⟩ => ho pins s1 σ H1 x v Q I1 r1 q1)
theorem opI {f : Value → Value → Sem Value} {C : Int → Int → Prop} {g : Int → Int → Int}
    (rule : ∀ (i j : Int) (t u : Tok) (s : Shared) (Q : Value → Shared → Prop) (E : Value → Shared → Prop), C i j → Q (.int (g i j) s.toks) { s with toks := s.toks + 1 } → wpAny (model X.prog X.w) X.A (f (.int i t) (.int j u)) Q E s) :
    OpR X f (rI C fun i j => .int (g i j)) := by
  intro pins s σ H x y v u Q I rx ry h
  obtain ⟨i, j, rfl, rfl, hc, q⟩ := h
  obtain ⟨t, rfl⟩ := rx
  obtain ⟨t', rfl⟩ := ry
  exact rule i j t t' s _ _ hc ⟨.int (g i j), H, I.tok _, ⟨_, rfl⟩, q⟩
theorem opI0 {f : Value → Value → Sem Value} {g : Int → Int → Int}
    (rule : ∀ (i j : Int) (t u : Tok) (s : Shared) (Q : Value → Shared → Prop) (E : Value → Shared → Prop), Q (.int (g i j) s.toks) { s with toks := s.toks + 1 } → wpAny (model X.prog X.w) X.A (f (.int i t) (.int j u)) Q E s) :
    OpR X f (rI0 fun i j => .int (g i j)) := by
  intro pins s σ H x y v u Q I rx ry h
  obtain ⟨i, j, rfl, rfl, q⟩ := h
  obtain ⟨t, rfl⟩ := rx
  obtain ⟨t', rfl⟩ := ry
  exact rule i j t t' s _ _ ⟨.int (g i j), H, I.tok _, ⟨_, rfl⟩, q⟩
theorem opB0 {f : Value → Value → Sem Value} {g : Int → Int → Bool}
    (rule : ∀ (i j : Int) (t u : Tok) (s : Shared) (Q : Value → Shared → Prop) (E : Value → Shared → Prop), Q (.bool (g i j)) s → wpAny (model X.prog X.w) X.A (f (.int i t) (.int j u)) Q E s) :
    OpR X f (rI0 fun i j => .bl (g i j)) := by
  intro pins s σ H x y v u Q I rx ry h
  obtain ⟨i, j, rfl, rfl, q⟩ := h
  obtain ⟨t, rfl⟩ := rx
  obtain ⟨t', rfl⟩ := ry
  exact rule i j t t' s _ _ ⟨.bl (g i j), H, I, rfl, q⟩
def CDiv (i j : Int) : Prop := 0 < j ∧ j < 1073741824
def CPow (i j : Int) : Prop := 0 ≤ j ∧ j ≤ 1000000 ∧ i.natAbs < 2 ^ 64
def CMul (i j : Int) : Prop := (-(2 ^ 64) < i ∧ i < 2 ^ 64) ∨ (-(2 ^ 64) < j ∧ j < 2 ^ 64)
theorem CMul.ok {i j : Int} (h : CMul i j) : IntMulOk i j := by
  rcases h with ⟨h1, h2⟩ | ⟨h1, h2⟩
  · exact .of_left (intBits_le_64 h1 h2)
  · exact .of_right (intBits_le_64 h1 h2)
theorem op_add : OpR X (binaryOp .Add) (rI0 fun i j => .int (i + j)) := opI0 fun _ _ _ _ _ _ _ q => add_int q
theorem op_sub : OpR X (binaryOp .Sub) (rI0 fun i j => .int (i - j)) := opI0 fun _ _ _ _ _ _ _ q => sub_int q
/-- // by a positive divisor -/
theorem op_fdiv : OpR X (binaryOp .FloorDiv) (rI CDiv fun i j => .int (i / j)) := opI fun i j _ _ _ _ _ hc q => by
  have h1 : (0 : Int) < j := hc.1
  have h2 : j < 1073741824 := hc.2
  exact floordiv_int (by omega) (by rw [Int.fdiv_eq_ediv_of_nonneg i (by omega)]; exact q) (.inl (PyProof.noPylong_small (by omega)))
/-- % by a positive divisor of any size -/
theorem op_mod : OpR X (binaryOp .Mod) (rI (fun _ j => 0 < j) fun i j => .int (i % j)) := opI fun i j _ _ _ _ _ hc q => by
  have h1 : (0 : Int) < j := hc
  exact mod_int' (by omega) (by rw [Int.fmod_eq_emod_of_nonneg i (by omega)]; exact q)
theorem op_pow : OpR X (binaryOp .Pow) (rI CPow fun i j => .int (i ^ j.toNat)) := opI fun _ _ _ _ _ _ _ hc q => pow_int_small hc.1 hc.2.1 hc.2.2 q
theorem unI {f : Value → Sem Value} {g : Int → Int}
    (rule : ∀ (i : Int) (t : Tok) (s : Shared) (Q : Value → Shared → Prop) (E : Value → Shared → Prop), Q (.int (g i) s.toks) { s with toks := s.toks + 1 } → wpAny (model X.prog X.w) X.A (f (.int i t)) Q E s) :
    UnR X f (rU fun i => .int (g i)) := by
  intro pins s σ H x v Q I rx h
  obtain ⟨i, rfl, q⟩ := h
  obtain ⟨t, rfl⟩ := rx
  exact rule i t s _ _ ⟨.int (g i), H, I.tok _, ⟨_, rfl⟩, q⟩
theorem un_neg : UnR X (unaryOp .USub) (rU fun i => .int (-i)) := unI fun _ _ _ _ _ q => neg_int q
end

/-- the scalars that == tells apart as data does -/
def scal : V → V → Bool
  | .non, .non => true | .non, .int _ => true | .int _, .non => true | .non, .bl _ => true | .bl _, .non => true | .non, .str _ => true | .str _, .non => true
  | .int _, .int _ => true | .bl _, .bl _ => true | .str _, .str _ => true | .byt _, .byt _ => true
  | .int _, .str _ => true | .str _, .int _ => true | .bl _, .str _ => true | .str _, .bl _ => true
  | _, _ => false
def rEq : R2 := fun x y H Q => scal x y = true ∧ Q (.bl (decide (x = y))) H
def rNe : R2 := fun x y H Q => scal x y = true ∧ Q (.bl (!decide (x = y))) H
theorem dec_int {i j : Int} : decide (V.int i = V.int j) = (i == j) := by
  rw [Bool.eq_iff_iff]
  simp
theorem dec_bl {i j : Bool} : decide (V.bl i = V.bl j) = (i == j) := by
  rw [Bool.eq_iff_iff]
  simp
theorem dec_str {i j : Str} : decide (V.str i = V.str j) = (i == j) := by
  rw [Bool.eq_iff_iff]
  simp
theorem dec_byt {i j : Array UInt8} : decide (V.byt i = V.byt j) = (i.toList == j.toList) := by
  rw [Bool.eq_iff_iff]
  cases i
  cases j
  simp
section
variable {X : Cx} {a b c : Expr} {ta tb tc : TE} {pos : Pos}
theorem fin_bl {pins : List (Addr × Obj)} {σ : St} {H : Hp} {s : Shared} {Q : VK} {k k' : Bool} (I : Inv X pins σ H s) (q : Q (.bl k) H) (e : k = k') : EP X pins σ Q (.bool k') s := by
  subst e
  exact ⟨.bl k, H, I, rfl, q⟩
theorem op_eq : OpR X (compareOp .Eq) rEq := by
  intro pins s σ H x y v u Q I rx ry h
  obtain ⟨hs, q⟩ := h
  cases x with
  | non =>
    cases rx
    cases y with
    | non => cases ry; exact PySem.EqNone.eq_none_none (fin_bl I q (by simp))
    | bl j => cases ry; exact PySem.EqNone.eq_none_bool (fin_bl I q (by simp))
    | int j => obtain ⟨t', rfl⟩ := ry; exact PySem.EqNone.eq_none_int (fin_bl I q (by simp))
    | str j => obtain ⟨t', rfl⟩ := ry; exact PySem.EqNone.eq_none_str (fin_bl I q (by simp))
    | _ => exact absurd (show false = true from hs) Bool.false_ne_true
  | bl i =>
    cases rx
    cases y with
    | non => cases ry; exact PySem.EqNone.eq_bool_none (fin_bl I q (by simp))
    | bl j => cases ry; exact eq_bool (fin_bl I q dec_bl)
    | str j => obtain ⟨t', rfl⟩ := ry; exact PySem.EqMixed.eq_bool_str (fin_bl I q (by simp))
    | _ => exact absurd (show false = true from hs) Bool.false_ne_true
  | int i =>
    obtain ⟨t, rfl⟩ := rx
    cases y with
    | non => cases ry; exact PySem.EqNone.eq_int_none (fin_bl I q (by simp))
    | int j => obtain ⟨t', rfl⟩ := ry; exact eq_int (fin_bl I q dec_int)
    | str j => obtain ⟨t', rfl⟩ := ry; exact PySem.EqMixed.eq_int_str (fin_bl I q (by simp))
    | _ => exact absurd (show false = true from hs) Bool.false_ne_true
  | str i =>
    obtain ⟨t, rfl⟩ := rx
    cases y with
    | non => cases ry; exact PySem.EqNone.eq_str_none (fin_bl I q (by simp))
    | bl j => cases ry; exact PySem.EqMixed.eq_str_bool (fin_bl I q (by simp))
    | int j => obtain ⟨t', rfl⟩ := ry; exact PySem.EqMixed.eq_str_int (fin_bl I q (by simp))
    | str j => obtain ⟨t', rfl⟩ := ry; exact eq_str (fin_bl I q dec_str)
    | _ => exact absurd (show false = true from hs) Bool.false_ne_true
  | byt i =>
    obtain ⟨t, rfl⟩ := rx
    cases y with
    | byt j => obtain ⟨t', rfl⟩ := ry; exact PySem.W.eq_bytes (fin_bl I q dec_byt)
    | _ => exact absurd (show false = true from hs) Bool.false_ne_true
  | _ => cases y <;> exact absurd (show false = true from hs) Bool.false_ne_true
theorem op_ne : OpR X (compareOp .NotEq) rNe := by
  intro pins s σ H x y v u Q I rx ry h
  obtain ⟨hs, q⟩ := h
  cases x with
  | non =>
    cases rx
    cases y with
    | non => cases ry; exact PySem.EqNone.ne_none_none (fin_bl I q (by simp))
    | bl j => cases ry; exact PySem.EqNone.ne_none_bool (fin_bl I q (by simp))
    | int j => obtain ⟨t', rfl⟩ := ry; exact PySem.EqNone.ne_none_int (fin_bl I q (by simp))
    | str j => obtain ⟨t', rfl⟩ := ry; exact PySem.EqNone.ne_none_str (fin_bl I q (by simp))
    | _ => exact absurd (show false = true from hs) Bool.false_ne_true
  | bl i =>
    cases rx
    cases y with
    | non => cases ry; exact PySem.EqNone.ne_bool_none (fin_bl I q (by simp))
    | bl j => cases ry; exact ne_bool (fin_bl I q (congrArg not dec_bl))
    | str j => obtain ⟨t', rfl⟩ := ry; exact PySem.EqMixed.ne_bool_str (fin_bl I q (by simp))
    | _ => exact absurd (show false = true from hs) Bool.false_ne_true
  | int i =>
    obtain ⟨t, rfl⟩ := rx
    cases y with
    | non => cases ry; exact PySem.EqNone.ne_int_none (fin_bl I q (by simp))
    | int j => obtain ⟨t', rfl⟩ := ry; exact ne_int (fin_bl I q (congrArg not dec_int))
    | str j => obtain ⟨t', rfl⟩ := ry; exact PySem.EqMixed.ne_int_str (fin_bl I q (by simp))
    | _ => exact absurd (show false = true from hs) Bool.false_ne_true
  | str i =>
    obtain ⟨t, rfl⟩ := rx
    cases y with
    | non => cases ry; exact PySem.EqNone.ne_str_none (fin_bl I q (by simp))
    | bl j => cases ry; exact PySem.EqMixed.ne_str_bool (fin_bl I q (by simp))
    | int j => obtain ⟨t', rfl⟩ := ry; exact PySem.EqMixed.ne_str_int (fin_bl I q (by simp))
    | str j => obtain ⟨t', rfl⟩ := ry; exact ne_str (fin_bl I q (congrArg not dec_str))
    | _ => exact absurd (show false = true from hs) Bool.false_ne_true
  | byt i =>
    obtain ⟨t, rfl⟩ := rx
    cases y with
    | byt j => obtain ⟨t', rfl⟩ := ry; exact PySem.W.ne_bytes (fin_bl I q (congrArg not dec_byt))
    | _ => exact absurd (show false = true from hs) Bool.false_ne_true
  | _ => cases y <;> exact absurd (show false = true from hs) Bool.false_ne_true
theorem op_lt : OpR X (compareOp .Lt) (rI0 fun i j => .bl (decide (i < j))) := opB0 fun _ _ _ _ _ _ _ q => lt_int q
theorem op_gt : OpR X (compareOp .Gt) (rI0 fun i j => .bl (decide (j < i))) := opB0 fun _ _ _ _ _ _ _ q => gt_int q
theorem op_notin_str : OpR X (compareOp .NotIn) (fun x y H Q => ∃ i j, x = .str i ∧ y = .str j ∧ Q (.bl (!(!(Builtin.Str.occurrences j i 0 j.length 1).isEmpty))) H) := by
  intro pins s σ H x y v u Q I rx ry h
  obtain ⟨i, j, rfl, rfl, q⟩ := h
  obtain ⟨t, rfl⟩ := rx
  obtain ⟨t', rfl⟩ := ry
  exact notIn_str (fin_bl I q rfl)
/-- two rules for one operation: by cases -/
theorem OpR.or {f : Value → Value → Sem Value} {r r' : R2} (h : OpR X f r) (h' : OpR X f r') : OpR X f (fun x y H Q => r x y H Q ∨ r' x y H Q) := by
  intro pins s σ H x y v u Q I rx ry q
  rcases q with q | q
  · exact h pins s σ H x y v u Q I rx ry q
  · exact h' pins s σ H x y v u Q I rx ry q
theorem nomark (b : Expr) {op : CmpOp} (h : op ≠ .In := by decide) (h2 : op ≠ .NotIn := by decide) : behindInMarks op b = false := by
  have e1 : (op == CmpOp.In) = false := by cases op <;> first | rfl | exact absurd rfl h
  have e2 : (op == CmpOp.NotIn) = false := by cases op <;> first | rfl | exact absurd rfl h2
  cases b <;> simp [behindInMarks, e1, e2]
/-- a comparison as a value; hm: nomark b, or (for in, not in) by with_unfolding_all rfl -/
theorem pe_cmpR {op : CmpOp} {r : R2} (ho : OpR X (compareOp op) r) (ha : PE X a ta) (hb : PE X b tb) (hm : behindInMarks op b = false) : PE X (.Compare a [op] [b] pos) (tOp r ta tb) := by
  intro pins s σ H Q I h
  exact wpAny_Compare1 (binT ha hb I h fun v u s2 x y H2 I2 rx ry q => ho pins s2 σ H2 x y v u Q I2 rx ry q) hm
/-- a reading of a value as a test -/
def tTest (t : TE) : TT := fun σ H Q => t σ H fun x H' => ∃ k, x = .bl k ∧ Q k H'
theorem pt_cmpR {op : CmpOp} {r : R2} (ho : OpR X (compareOp op) r) (ha : PE X a ta) (hb : PE X b tb) (hm : behindInMarks op b = false) : PT X (.Compare a [op] [b] pos) (tTest (tOp r ta tb)) := by
  intro pins s σ H Q I h
  refine wpAny_isTrue_Compare1 (thn (ha pins s σ H _ I h) fun v s1 ⟨x, H1, I1, r1, q1⟩ => thn (hb pins s1 σ H1 _ I1 q1) fun u s2 ⟨y, H2, I2, r2, q2⟩ =>
    thn (ho pins s2 σ H2 x y v u _ I2 r1 r2 q2) fun c s3 ⟨z, H3, I3, r3, k, e, q3⟩ => ?_) hm
  subst e
  cases r3
  exact wpAny_truthy_bool ⟨H3, I3, q3⟩
theorem line63 : (sizeLine : Nat) < 2 ^ 63 := by rw [sizeLine_eq]; decide
theorem op_add_str : OpR X (binaryOp .Add) (fun x y H Q => ∃ i j, x = .str i ∧ y = .str j ∧ i.length + j.length ≤ sizeLine ∧ Q (.str (i ++ j)) H) := by
  intro pins s σ H x y v u Q I rx ry h
  obtain ⟨i, j, rfl, rfl, hz, q⟩ := h
  obtain ⟨t, rfl⟩ := rx
  obtain ⟨t', rfl⟩ := ry
  exact add_str (fun t' tk => ⟨.str (i ++ j), H, I.tok _, ⟨_, rfl⟩, q⟩) hz
theorem vals1 {x : V} {us : List Value} (r : Vals [x] us) : ∃ u, us = [u] ∧ RelV x u := by
  cases r with
  | cons r1 r2 => cases r2; exact ⟨_, rfl, r1⟩
theorem vals2 {x y : V} {us : List Value} (r : Vals [x, y] us) : ∃ u w', us = [u, w'] ∧ RelV x u ∧ RelV y w' := by
  cases r with
  | cons r1 r2 =>
    cases r2 with
    | cons r3 r4 => cases r4; exact ⟨_, _, rfl, r1, r3⟩
end
end L2

namespace L2
open PySem PySem.Spec PyProof.Rows

structure ObjM (h : Heap) (x dx C : Addr) (mA : Str → Option Value) : Prop where
  obj : h.get? x = some (PySem.W.instObj C dx)
  ns : h.Ns1 dx mA
  ne : dx ≠ x
theorem lookIn_ns {h : Heap} {dx : Addr} {mA : Str → Option Value} (n : h.Ns1 dx mA) : ∃ od, h.get? dx = some od ∧ ∀ name, PySem.W.lookIn name od = some (mA name) := by
  obtain ⟨o, es, ep, ho, hd, hk, _, hm⟩ := n
  refine ⟨o, ho, fun name => ?_⟩
  have e := hm name
  unfold nsFind findBy at e
  rw [← Array.find?_toList] at e
  unfold PySem.W.lookIn
  rw [hd]
  dsimp only
  split
  · rename_i y q
    rw [q] at e
    exact congrArg some e
  · rename_i q
    rw [q] at e
    have a : es.toList.any (·.refKey) = false := by
      rw [List.any_eq_false]
      intro y hy
      obtain ⟨z, t, hkey⟩ := hk y (Array.mem_toList_iff.mp hy)
      simp [DictEntry.refKey, hkey]
    have a' : ¬ es.toList.any (·.refKey) = true := by rw [a]; exact Bool.false_ne_true
    rw [if_neg a']
    exact congrArg some e
theorem ObjM.look {h : Heap} {x dx C : Addr} {mA : Str → Option Value} (I : ObjM h x dx C mA) : ∃ od, PySem.W.InstAt h x (PySem.W.instObj C dx) C (some od) ∧ ∀ name, PySem.W.lookIn name od = some (mA name) :=
  let ⟨od, ho, hl⟩ := lookIn_ns I.ns
  ⟨od, ⟨I.obj, rfl, rfl, ho⟩, hl⟩
section
variable {prog : Program} {w : World} {A : Around} {E : Value → Shared → Prop} {s : Shared} {K : PySem.W.Frag} {x dx C f : Addr} {mA : Str → Option Value} {name : Str} {v : Value}

theorem get_map {expr : Bool} {Q : Value → Shared → Prop} (X : K.In s.heap) (I : ObjM s.heap x dx C mA) (hg : PySem.W.plainGet K C name = true) (hh : PySem.W.hasDictIn K C = true)
    (ha : PySem.W.findIn K (.ref C) name = some none) (hv : mA name = some v) (hv' : PySem.W.handedIn v = true) (h : Q v { s with toks := s.toks + 1 }) :
    wpAny (model prog w) A (getAttr (.ref x) name expr) Q E s := by
  obtain ⟨od, J, hl⟩ := I.look
  exact PySem.W.get_value X J (PySem.W.plainGet_of hg).1 (PySem.W.findObj_own hh ha rfl (by rw [hl, hv])) hv' h
theorem get_meth {pl : Sem Bool} {Q : Value × List Value → Shared → Prop} (X : K.In s.heap) (I : ObjM s.heap x dx C mA) (hg : PySem.W.plainGet K C name = true)
    (hf : PySem.W.findIn K (.ref C) name = some (some (.ref f))) (ht : PySem.W.isFn K (.ref f) = true) (hv : mA name = none) (h : Q (.ref f, [.ref x]) s) :
    wpAny (model prog w) A (getMethod (.ref x) name pl) Q E s := by
  obtain ⟨od, J, hl⟩ := I.look
  exact PySem.W.method_fn X J (PySem.W.plainGet_of hg).1 (PySem.W.plainGet_of hg).2 hf (beq_iff_eq.mp ht) (by show (PySem.W.lookIn name od).map (·.isSome) = some false; rw [hl, hv]; rfl) h
theorem set_map {ns : List Str} {Q : Unit → Shared → Prop} (X : K.In s.heap) (I : ObjM s.heap x dx C mA)
    (hs : PySem.W.findIn K (.ref C) "__setattr__" = some (some (.builtin "object.__setattr__"))) (hp : PySem.W.plainOver K C = true) (ht : PySem.W.takerIn K C name = some none) (hh : PySem.W.hasDictIn K C = true)
    (hw : PySem.Within mA ns) (hsz : ns.length ≤ sizeLine)
    (h : ∀ h', ObjM h' x dx C (fun y => if y = name then some v else mA y) → Heap.SameBut dx s.heap h' → Q () { s with heap := h', toks := s.toks + 2 }) :
    wpAny (model prog w) A (setAttr (.ref x) name v) Q E s := by
  obtain ⟨od, J, hl⟩ := I.look
  refine PySem.W.set_plain X J hs (PySem.W.osa_open (s := { s with toks := s.toks + 1 }) (r := none) X J hp ht fun b => ?_)
  obtain ⟨cd, hc, hd'⟩ := PySem.W.any_some hh
  have hx : s.heap.get? x = some ⟨.ref C, some dx, .plain, #[]⟩ := I.obj
  refine wpAny_bind (wpAny_pure (wpAny_bind (wpAny_bind (wpAny_loadPart hx (wpAny_bind (PySem.W.Looks.here (s := { s with toks := s.toks + 1 }) (PySem.W.looks_clsIn X hc) ?_))))))
  rw [hd']
  refine wpAny_pure (a := some dx) (wpAny_bind (wpAny_pure (wpAny_bind ?_)))
  refine wpAny_nsSet1 (s := { s with toks := s.toks + 1 }) I.ns fun h' hn2 hs2 => ?_
  obtain ⟨oD, esD, epD, hoD, hdD, hcD⟩ := hn2.count (PySem.Within.cons name v hw)
  refine wpAny_bind (wpAny_lookBehind hoD (by rw [hdD]; exact pastItsLine_dict (Nat.le_trans hcD (by rw [List.length_cons]; omega))) ?_)
  exact wpAny_pure (h _ ⟨(hs2.2 _ (Ne.symm I.ne)).trans I.obj, hn2, I.ne⟩ hs2)
/-- C(..): the dict at the heap's end, the instance behind it; then its __init__ -/
theorem make_map {R : Result → Shared → Prop} {vs : List Value} {kw : List (Str × Value)} (X : K.In s.heap) (hm : PySem.W.makesIn K C = true)
    (hi : PySem.W.findIn K (.ref C) "__init__" = some (some (.ref f))) (hf : PySem.W.typeIn K (.ref f) = some (.type "function"))
    (h : codeAny (model prog w) (A.under (.builtin "type.__call__" ⟨.ref C :: vs, kw⟩)) (.call (.ref f) ⟨.ref (s.heap.objs.size + 1) :: vs, kw⟩) (PySem.W.InitBack (s.heap.objs.size + 1) R)
      { s with heap := (s.heap.push PySem.W.emptyDict).push (PySem.W.instObj C s.heap.objs.size) }) :
    codeAny (model prog w) A (.call (.ref C) ⟨vs, kw⟩) R s := by
  obtain ⟨hh, g, d, t, os⟩ := s
  exact PySem.W.make_core (PySem.W.makes_of X hm) (PySem.W.looks_findIn X hi) (fun self => PySem.W.bind_fn X self hf) (.inl rfl) h
end

def putF (f : Str) (v : V) : List (Str × V) → List (Str × V)
  | [] => [(f, v)]
  | (g, x) :: r => if g = f then (g, v) :: r else (g, x) :: putF f v r
theorem lookup_putF (f g : Str) (v : V) : ∀ fs : List (Str × V), (putF f v fs).lookup g = if g = f then some v else fs.lookup g
  | [] => by
    show List.lookup g [(f, v)] = _
    by_cases h : g = f
    · have hb : (g == f) = true := beq_iff_eq.mpr h
      simp only [List.lookup, hb, if_pos h]
    · have hb : (g == f) = false := beq_eq_false_iff_ne.mpr h
      simp only [List.lookup, hb, if_neg h]
  | (k, x) :: r => by
    have ih := lookup_putF f g v r
    rw [show putF f v ((k, x) :: r) = (if k = f then (k, v) :: r else (k, x) :: putF f v r) from rfl]
    by_cases hk : k = f
    · rw [if_pos hk]
      by_cases h : g = k
      · have hb : (g == k) = true := beq_iff_eq.mpr h
        simp only [List.lookup, hb, if_pos (h.trans hk)]
      · have hb : (g == k) = false := beq_eq_false_iff_ne.mpr h
        simp only [List.lookup, hb, if_neg (fun e : g = f => h (e.trans hk.symm))]
    · rw [if_neg hk]
      by_cases h : g = k
      · have hb : (g == k) = true := beq_iff_eq.mpr h
        simp only [List.lookup, hb, if_neg (fun e : g = f => hk (h.symm.trans e))]
      · have hb : (g == k) = false := beq_eq_false_iff_ne.mpr h
        simp only [List.lookup, hb]
        exact ih
theorem keys_putF (f : Str) (v : V) : ∀ fs : List (Str × V), f ∈ (putF f v fs).map (·.1) ∧ ∀ g, g ∈ fs.map (·.1) → g ∈ (putF f v fs).map (·.1)
  | [] => ⟨by simp [putF], fun g h => by simp at h⟩
  | (k, x) :: r => by
    obtain ⟨i1, i2⟩ := keys_putF f v r
    rw [show putF f v ((k, x) :: r) = (if k = f then (k, v) :: r else (k, x) :: putF f v r) from rfl]
    by_cases hk : k = f
    · rw [if_pos hk]
      subst hk
      exact ⟨by simp, fun g h => by simpa using h⟩
    · rw [if_neg hk]
      refine ⟨?_, fun g h => ?_⟩
      · rw [List.map_cons]
        exact List.mem_cons_of_mem _ i1
      · rw [List.map_cons] at h ⊢
        rcases List.mem_cons.mp h with e | e
        · exact List.mem_cons.mpr (.inl e)
        · exact List.mem_cons_of_mem _ (i2 g e)
theorem length_putF (f : Str) (v : V) : ∀ fs : List (Str × V), (putF f v fs).length ≤ fs.length + 1
  | [] => by simp [putF]
  | (k, x) :: r => by
    have ih := length_putF f v r
    rw [show putF f v ((k, x) :: r) = (if k = f then (k, v) :: r else (k, x) :: putF f v r) from rfl]
    by_cases hk : k = f
    · rw [if_pos hk, List.length_cons, List.length_cons]; omega
    · rw [if_neg hk, List.length_cons, List.length_cons]; omega
theorem RelO.some_of {v : V} {o : Option Value} (r : RelO (some v) o) : ∃ u, o = some u ∧ RelV v u := by
  cases o with
  | none => exact (show False from r).elim
  | some u => exact ⟨u, rfl, r⟩
theorem RelO.none_of {o : Option Value} (r : RelO none o) : o = none := by
  cases o with
  | none => rfl
  | some u => exact (show False from r).elim
theorem handed_of {v : V} {u : Value} (r : RelV v u) : PySem.W.handedIn u = true := by
  cases v with
  | non => cases (show u = Value.none from r); rfl
  | bl b => cases (show u = Value.bool b from r); rfl
  | int i => obtain ⟨t, e⟩ := (show ∃ t, u = Value.int i t from r); cases e; rfl
  | str x => obtain ⟨t, e⟩ := (show ∃ t, u = Value.str x t from r); cases e; rfl
  | byt b => obtain ⟨t, e⟩ := (show ∃ t, u = Value.bytes b t from r); cases e; rfl
  | flt b => obtain ⟨t, e⟩ := (show ∃ t, u = Value.float b t from r); cases e; rfl
  | ref a => cases (show u = Value.ref a from r); rfl
  | ty n => cases (show u = Value.type n from r); rfl
section
variable {P : Program} {w : World} {H H' : Hp} {h h' : Heap} {a C dx : Addr} {fs fs' : List (Str × V)}
theorem ins_get (hok : HOk P w H h) (e : H a = some (.ins C dx fs)) : ∃ mA, ObjM h a dx C mA ∧ (∀ f, RelO (fs.lookup f) (mA f)) ∧ PySem.Within mA (fs.map (·.1)) ∧ fs.length ≤ 1000 ∧ H dx = some (.own a) := by
  obtain ⟨d, z, ne, ob, mA, n, r, q⟩ := (show ObjOk P w H h a (.ins C dx fs) from hok a _ e)
  exact ⟨mA, ⟨ob, n, ne⟩, r, q, z, d⟩
end

structure Cls (K : PySem.W.Frag) (C : Addr) : Prop where
  pg : PySem.W.plainGet K C Str.empty = true
  hd : PySem.W.hasDictIn K C = true
  po : PySem.W.plainOver K C = true
  sa : PySem.W.findIn K (.ref C) "__setattr__" = some (some (.builtin "object.__setattr__"))
theorem Cls.get {K : PySem.W.Frag} {C : Addr} (c : Cls K C) (f : Str) : PySem.W.plainGet K C f = true := c.pg
/-- no class of it has the name -/
def NoAttr (K : PySem.W.Frag) (C : Addr) (f : Str) : Prop := PySem.W.findIn K (.ref C) f = some none
theorem NoAttr.taker {K : PySem.W.Frag} {C : Addr} {f : Str} (n : NoAttr K C f) : PySem.W.takerIn K C f = some none := by
  unfold PySem.W.takerIn
  rw [show PySem.W.findIn K (.ref C) f = some none from n]
  rfl
/-- a method: a plain def of the class or of one above it -/
structure Meth (K : PySem.W.Frag) (C : Addr) (m : Str) (f : Addr) : Prop where
  at_ : PySem.W.findIn K (.ref C) m = some (some (.ref f))
  fn : PySem.W.isFn K (.ref f) = true
  kp : PySem.W.keepIn K (.ref f) = true
section
variable {X : Cx} {pins : List (Addr × Obj)} {σ : St} {H : Hp} {s : Shared} {a C dx : Addr} {fs : List (Str × V)} {f : Str} {v : V} {A : Around} {E : Value → Shared → Prop}

theorem getattr_ok {b : Bool} {Q : Value → Shared → Prop} (I : Inv X pins σ H s) (e : H a = some (.ins C dx fs)) (c : Cls X.K C) (n : NoAttr X.K C f) (l : fs.lookup f = some v)
    (h : ∀ u s', Inv X pins σ H s' → RelV v u → Q u s') : wpAny (model X.prog X.w) A (getAttr (.ref a) f b) Q E s := by
  obtain ⟨mA, O, r, _, _, _⟩ := ins_get I.hok e
  obtain ⟨u, hu, ru⟩ := RelO.some_of (v := v) (o := mA f) (by rw [← l]; exact r f)
  exact get_map I.kIn O (c.get f) c.hd n hu (handed_of ru) (h u _ (I.tok _) ru)
theorem getmeth_ok {m : Str} {g : Addr} {pl : Sem Bool} {Q : Value × List Value → Shared → Prop} (I : Inv X pins σ H s) (e : H a = some (.ins C dx fs)) (c : Cls X.K C) (k : Meth X.K C m g) (l : fs.lookup m = none)
    (h : Q (.ref g, [.ref a]) s) : wpAny (model X.prog X.w) A (getMethod (.ref a) m pl) Q E s := by
  obtain ⟨mA, O, r, _, _, _⟩ := ins_get I.hok e
  have hn : mA m = none := RelO.none_of (by rw [← l]; exact r m)
  exact get_meth I.kIn O (c.get m) k.at_ k.fn hn h
theorem setattr_ok {y : V} {u : Value} {Q : Unit → Shared → Prop} (I : Inv X pins σ H s) (e : H a = some (.ins C dx fs)) (c : Cls X.K C) (n : NoAttr X.K C f) (hl : fs.length < 1000) (ry : RelV y u)
    (h : ∀ s', Inv X pins σ (upd H a (.ins C dx (putF f y fs))) s' → Q () s') : wpAny (model X.prog X.w) A (setAttr (.ref a) f u) Q E s := by
  obtain ⟨mA, O, r, wi, _, ho⟩ := ins_get I.hok e
  have hz : (fs.map (·.1)).length ≤ sizeLine := by rw [List.length_map, sizeLine_eq]; omega
  refine set_map I.kIn O c.sa c.po n.taker c.hd wi hz fun h' O' sb => h _ ?_
  have hd : ∃ o, h'.get? dx = some o := let ⟨o, _, _, e', _⟩ := O'.ns; ⟨o, e'⟩
  refine I.write (x := a) (e := dx) (by rw [e]; exact True.intro) (.inr ho) (fun b q hb z => (sb.2 b hb).trans z) hd ?_
  refine ⟨by rw [upd_ne O.ne]; exact ho, ?_, O.ne, O'.obj, _, O'.ns, fun g => ?_, fun g hg => ?_⟩
  · have := length_putF f y fs; omega
  · show RelO ((putF f y fs).lookup g) (if g = f then some u else mA g)
    rw [lookup_putF]
    by_cases q : g = f
    · rw [if_pos q, if_pos q]; exact ry
    · rw [if_neg q, if_neg q]; exact r g
  · by_cases q : g = f
    · rw [q]; exact (keys_putF f y fs).1
    · refine (keys_putF f y fs).2 g (wi g fun z => hg ?_)
      show (if g = f then some u else mA g) = none
      rw [if_neg q]; exact z
/-- a new instance, tracked, without attributes -/
theorem Inv.made (I : Inv X pins σ H s) : Inv X pins σ (upd (upd H s.heap.objs.size (.own (s.heap.objs.size + 1))) (s.heap.objs.size + 1) (.ins C s.heap.objs.size []))
    { s with heap := (s.heap.push PySem.W.emptyDict).push (PySem.W.instObj C s.heap.objs.size) } := by
  have e1 : (s.heap.push PySem.W.emptyDict).get? s.heap.objs.size = some PySem.W.emptyDict := Heap.get?_push_size s.heap rfl
  have e2 : ((s.heap.push PySem.W.emptyDict).push (PySem.W.instObj C s.heap.objs.size)).get? (s.heap.objs.size + 1) = some (PySem.W.instObj C s.heap.objs.size) := by
    have := Heap.get?_push_size (s.heap.push PySem.W.emptyDict) (o := PySem.W.instObj C s.heap.objs.size) rfl
    rwa [Heap.size_push] at this
  have e3 : (s.heap.push PySem.W.emptyDict).Ns s.heap.objs.size (fun _ => none) := ⟨PySem.W.emptyDict, #[], _, e1, rfl, (fun e he => absurd he (by simp)), fun _ => rfl⟩
  have I1 := I.laid (a := s.heap.objs.size) (o := .own (s.heap.objs.size + 1)) (h' := s.heap.push PySem.W.emptyDict) (t' := s.toks) (fun b u q => Heap.get?_push_of_some _ q) (Nat.le_refl _) ⟨_, e1⟩
  refine I1.laid (a := s.heap.objs.size + 1) (o := .ins C s.heap.objs.size []) (t' := s.toks) (fun b u q => Heap.get?_push_of_some _ q) (Nat.le_of_eq (Heap.size_push _ _)) ?_
  have ne : s.heap.objs.size ≠ s.heap.objs.size + 1 := Nat.ne_of_lt (Nat.lt_succ_self _)
  refine ⟨by rw [upd_ne ne, upd_same], Nat.zero_le _, ne, e2, fun _ => none, (Heap.Ns1.of_empty e3).at fun o q => Heap.get?_push_of_some _ q, fun _ => True.intro, fun y hy => absurd rfl hy⟩
/-- e.f where nothing but the object is asked: through attributeBase (super) and the last hold -/
theorem attr_of {prog : Program} {w : World} {env : Env} {e : Expr} {f : Str} {pos : Pos} {s : Shared} {Q : Value → Shared → Prop} (hb : attributeBase e f env (eval e env) = eval e env)
    (h : wpAny (model prog w) A (eval e env) (fun o s₁ => wpAny (model prog w) A (getAttr o f true) Q E s₁) E s) : wpAny (model prog w) A (eval (.Attribute e f pos) env) Q E s :=
  Attribute_any_ h (by rw [arm_eval_Attribute, hb])
end

/-- e.f, an attribute of the instance -/
def tFld (K : PySem.W.Frag) (ta : TE) (f : Str) : TE := fun σ H Q => ta σ H fun x H1 => ∃ a C dx fs v, x = .ref a ∧ H1 a = some (.ins C dx fs) ∧ Cls K C ∧ NoAttr K C f ∧ fs.lookup f = some v ∧ Q v H1
/-- e.f = value -/
def sFld (K : PySem.W.Frag) (ta tv : TE) (f : Str) : TS := fun D σ H => tv σ H fun y H1 => ta σ H1 fun x H2 => ∃ a C dx fs, x = .ref a ∧ H2 a = some (.ins C dx fs) ∧ Cls K C ∧ NoAttr K C f ∧ fs.length < 1000 ∧
  D.nx σ (upd H2 a (.ins C dx (putF f y fs)))
section
variable {X : Cx} {o e value : Expr} {f : Str} {pos pos' tpos : Pos} {ta tv : TE}
theorem pe_fld (he : PE X e ta) (hb : attributeBase e f X.env (eval e X.env) = eval e X.env) : PE X (.Attribute e f pos) (tFld X.K ta f) := by
  intro pins s σ H Q I h
  refine attr_of hb (thn (he pins s σ H _ I h) fun u s1 ⟨x, H1, I1, rx, a, C, dx, fs, v, ex, ea, c, n, l, q⟩ => ?_)
  subst ex
  obtain rfl : u = Value.ref a := rx
  exact getattr_ok I1 ea c n l fun u' s2 I2 ru => ⟨v, H1, I2, ru, q⟩
theorem ps_fld (ha : PE X o ta) (hv : PE X value tv) (hs : swapsWith value (some (.Attribute o f pos')) pos.line X.env = pure false) : PS X (.Assign [.Attribute o f pos'] value pos) (sFld X.K ta tv f) := by
  intro pins s σ H D I h
  refine plainObj_wpAny_Assign_Attribute (thn (hv pins s σ H _ I h) fun u s1 ⟨y, H1, I1, ry, q⟩ => thn (ha pins s1 σ H1 _ I1 q) fun ov s2 ⟨x, H2, I2, rx, a, C, dx, fs, ex, ea, c, n, l, q2⟩ => ?_) hs
  subst ex
  obtain rfl : ov = Value.ref a := rx
  exact setattr_ok I2 ea c n l ry fun s3 I3 => ⟨σ, _, I3, q2⟩
end

section
variable {X : Cx} {pins : List (Addr × Obj)} {σ : St} {H : Hp} {s : Shared} {A : Around} {E : Value → Shared → Prop} {Q : Value → Shared → Prop} {c : Value} {b : Bool}
/-- the type of a value, as the fragment's deciders take it; for an instance its class -/
inductive TyOf (K : PySem.W.Frag) (H : Hp) : V → Value → Prop where
  | non : TyOf K H .non (.type "NoneType")
  | bl (x : Bool) : TyOf K H (.bl x) (.type "bool")
  | int (i : Int) : TyOf K H (.int i) (.type "int")
  | str (x : Str) : TyOf K H (.str x) (.type "str")
  | flt (x : UInt64) : TyOf K H (.flt x) (.type "float")
  | lst {a : Addr} {xs : List V} (e : H a = some (.lst xs)) : TyOf K H (.ref a) (.type "list")
  | frz {a : Addr} {o : Obj} {xs : List V} (e : H a = some (.frz o (.lst xs))) : TyOf K H (.ref a) (.type "list")
  | tup {a : Addr} {xs : List V} (e : H a = some (.tup xs)) : TyOf K H (.ref a) (.type "tuple")
  | dK {a : Addr} {kvs : List (Key × V)} (e : H a = some (.dK kvs)) : TyOf K H (.ref a) (.type "dict")
  | dT {a : Addr} {kvs : List (List Key × V)} (e : H a = some (.dT kvs)) : TyOf K H (.ref a) (.type "dict")
  | ins {a C dx : Addr} {fs : List (Str × V)} (e : H a = some (.ins C dx fs)) (cl : Cls K C) (ha : PySem.W.findIn K (.ref C) "__class__" = some (some (.builtin "object.__class__")))
      (hn : PySem.W.specialIn K (.builtin "object.__class__") "__get__" = some (some (.builtin "getset_descriptor.__get__"))) (htk : PySem.W.takesIn K (.builtin "object.__class__") = some true)
      (hm : PySem.W.mroIn K C (.type "object") = some true) : TyOf K H (.ref a) (.ref C)
/-- isinstance(x, c) for one class c, a built-in or an own one: kitOne's answer -/
theorem isinst_ok {x : V} {u t : Value} (I : Inv X pins σ H s) (rx : RelV x u) (ty : TyOf X.K H x t) (e : PySem.W.kitOne X.K t c = some b) (h : ∀ tk, Q (.bool b) { s with toks := tk }) :
    wpAny (model X.prog X.w) A (call (.builtin "isinstance") [u, c]) Q E s := by
  cases ty with
  | non => cases (show u = Value.none from rx); exact PySem.W.kia_one PySem.W.kitx_none I.kIn True.intro e (fun z => nomatch z) h
  | bl y => cases (show u = Value.bool y from rx); exact PySem.W.kia_one PySem.W.kitx_bool I.kIn True.intro e (fun z => nomatch z) h
  | int i => obtain ⟨t, q⟩ := (show ∃ t, u = Value.int i t from rx); cases q; exact PySem.W.kia_one PySem.W.kitx_int I.kIn True.intro e (fun z => nomatch z) h
  | str y => obtain ⟨t, q⟩ := (show ∃ t, u = Value.str y t from rx); cases q; exact PySem.W.kia_one PySem.W.kitx_str I.kIn True.intro e (fun z => nomatch z) h
  | flt y => obtain ⟨t, q⟩ := (show ∃ t, u = Value.float y t from rx); cases q; exact PySem.W.kia_one PySem.W.kitx_float I.kIn True.intro e (fun z => nomatch z) h
  | @lst a xs ea =>
    cases (show u = Value.ref a from rx)
    obtain ⟨_, _, n, _, h1⟩ := (show ObjOk X.prog X.w H s.heap a (.lst xs) from I.hok a _ ea)
    exact PySem.W.kia_one PySem.W.kitx_list I.kIn ⟨_, h1, rfl⟩ e (fun z => nomatch z) h
  | @frz a ob xs ea =>
    cases (show u = Value.ref a from rx)
    obtain ⟨_, _, _, n, _, h1⟩ := (show ObjOk X.prog X.w H s.heap a (.frz ob (.lst xs)) from I.hok a _ ea)
    exact PySem.W.kia_one PySem.W.kitx_list I.kIn ⟨_, h1, rfl⟩ e (fun z => nomatch z) h
  | @tup a xs ea =>
    cases (show u = Value.ref a from rx)
    obtain ⟨_, _, _, p⟩ := (show ObjOk X.prog X.w H s.heap a (.tup xs) from I.hok a _ ea)
    obtain ⟨o, h1, h2, _⟩ := p
    exact PySem.W.kia_one PySem.W.kitx_tuple I.kIn ⟨o, h1, h2⟩ e (fun z => nomatch z) h
  | @dK a kvs ea =>
    cases (show u = Value.ref a from rx)
    obtain ⟨_, _, vs, _, p⟩ := (show ObjOk X.prog X.w H s.heap a (.dK kvs) from I.hok a _ ea)
    obtain ⟨o, es, ep, h1, h2, _⟩ := p
    exact PySem.W.kia_one PySem.W.kitx_dict I.kIn ⟨o, h1, h2.1⟩ e (fun z => nomatch z) h
  | @dT a kvs ea =>
    cases (show u = Value.ref a from rx)
    obtain ⟨_, _, xs, _, o, es, ep, h1, h2, _⟩ := (show ObjOk X.prog X.w H s.heap a (.dT kvs) from I.hok a _ ea)
    exact PySem.W.kia_one PySem.W.kitx_dict I.kIn ⟨o, h1, h2.1⟩ e (fun z => nomatch z) h
  | @ins a C dx fs ea cl ha hn htk hm =>
    cases (show u = Value.ref a from rx)
    obtain ⟨mA, O, _⟩ := ins_get I.hok ea
    obtain ⟨od, J, _⟩ := O.look
    exact PySem.W.kia_one (PySem.W.kitx_own (cl.get _) cl.hd ha hn htk hm) I.kIn J e (fun z => nomatch z) h
end
end L2

namespace L2
open PySem PySem.Spec PyProof.Rows

structure Room (k : Nat) (A : Around) : Prop where
  hd : A.handled = none
  dp : A.depth + 3 * k + 5 < recursionLimit
  un : A.units + 16 * k + 200 < cLine
theorem Room.mono {j k : Nat} {A : Around} (r : Room k A) (h : j ≤ k) : Room j A := ⟨r.hd, by have := r.dp; omega, by have := r.un; omega⟩
theorem Room.deeper {k : Nat} {A : Around} (r : Room (k + 1) A) (env : Env) : Room k (A.deeper env) :=
  ⟨r.hd, by have := r.dp; show A.depth + 1 + 3 * k + 5 < _; omega, by have := r.un; show A.units + 3 + 16 * k + 200 < _; omega⟩
theorem make_depth {A : Around} {C : Addr} {us : List Value} {kw : List (Str × Value)} : (A.under (.builtin "type.__call__" ⟨.ref C :: us, kw⟩)).depth = A.depth + 1 := by
  first | rfl | simp [Around.under, Code.weight, Code.isCreation, Code.isGuard, Code.isCaller, Code.frames, Code.isFrame, guardIds]
theorem make_units {A : Around} {C : Addr} {us : List Value} {kw : List (Str × Value)} : (A.under (.builtin "type.__call__" ⟨.ref C :: us, kw⟩)).units = A.units + 1 := by
  first | rfl | simp [Around.under, Code.cUnits, Code.frames, Code.isFrame]
theorem Room.make {k : Nat} {A : Around} (r : Room (k + 1) A) (C : Addr) (us : List Value) (kw : List (Str × Value)) : Room k (A.under (.builtin "type.__call__" ⟨.ref C :: us, kw⟩)) :=
  ⟨r.hd, by have := r.dp; rw [make_depth]; omega, by have := r.un; rw [make_units]; omega⟩
theorem Room.depth {k : Nat} {A : Around} (r : Room k A) : A.depth < recursionLimit := by have := r.dp; omega
theorem Room.units {k : Nat} {A : Around} (r : Room k A) : A.units + 64 < cLine := by have := r.un; omega
def tNil : TA := fun _ H Q => Q [] H
def tCons (ta : TE) (tr : TA) : TA := fun σ H Q => ta σ H fun x H1 => tr σ H1 fun xs H2 => Q (x :: xs) H2
section
variable {X : Cx} {e : Expr} {es : List Expr} {te : TE} {t : TA} {pos : Pos}
theorem pa_nil : PA X [] tNil := fun _ _ _ _ H Q I h => Calls.spliced_nil ⟨[], H, I, .nil, h⟩
theorem pa_cons (ha : PE X e te) (hr : PA X es t) (hs : starEach (e :: es) X.env = (false, eval e X.env) :: starEach es X.env := by rfl) : PA X (e :: es) (tCons te t) := by
  intro pos pins s σ H Q I h
  rw [hs]
  show wpAny _ _ (spliced ((false, eval e X.env) :: backTo pos (starEach es X.env))) _ _ s
  refine Calls.spliced_cons (thn (ha pins s σ H _ I h) fun u s1 ⟨x, H1, I1, r1, q1⟩ => ?_)
  exact thn (hr pos pins s1 σ H1 _ I1 q1) fun us s2 ⟨xs, H2, I2, r2, q2⟩ => ⟨x :: xs, H2, I2, .cons r1 r2, q2⟩
/-- a tuple, a list of written items -/
def tTup (t : TA) : TE := fun σ H Q => t σ H fun xs H1 => xs.length ≤ sizeLine ∧ ∀ p, H1 p = none → Q (.ref p) (upd H1 p (.tup xs))
def tLst (t : TA) : TE := fun σ H Q => t σ H fun xs H1 => xs.length ≤ sizeLine ∧ ∀ p, H1 p = none → Q (.ref p) (upd H1 p (.lst xs))
theorem pe_tup {x1} (h : PA X es t) : PE X (.Tuple es x1 pos) (tTup t) := by
  intro pins s σ H Q I hq
  refine wpAny_Tuple_spliced (thn (h pos pins s σ H _ I hq) fun us s1 ⟨xs, H1, I1, r, z, q⟩ => ⟨by rw [← r.length]; exact z, ?_⟩)
  have hf : H1 s1.heap.objs.size = none := I1.hok.fresh (Nat.le_refl _)
  refine ⟨.ref s1.heap.objs.size, upd H1 s1.heap.objs.size (.tup xs), I1.laid (t' := s1.toks) (fun b u e => Heap.get?_push_of_some _ e) (Nat.le_refl _) ?_, rfl, q _ hf⟩
  exact ⟨z, us, r, ⟨_, Heap.get?_push_size _ rfl, rfl, _, rfl⟩⟩
theorem pe_lst (h : PA X es t) : PE X (.List es pos) (tLst t) := by
  intro pins s σ H Q I hq
  refine wpAny_List_spliced (thn (h pos pins s σ H _ I hq) fun us s1 ⟨xs, H1, I1, r, z, q⟩ => ⟨by rw [← r.length]; exact z, ?_⟩)
  have hf : H1 s1.heap.objs.size = none := I1.hok.fresh (Nat.le_refl _)
  refine ⟨.ref s1.heap.objs.size, upd H1 s1.heap.objs.size (.lst xs), I1.laid (t' := s1.toks) (fun b u e => Heap.get?_push_of_some _ e) (Nat.le_refl _) ?_, rfl, q _ hf⟩
  exact ⟨z, us, 0, r, Heap.get?_push_size _ rfl⟩
end

/-- a def's promise: the bound arguments in the parameters' order, the heap, the wanted end, the wanted exception -/
abbrev Sp := List V → Hp → VK → XK → Prop
/-- how an exception lies behind a call (file 08 gives it): the callers' frames, abstract heap and state ahead of the call, the wish, the exception, the state -/
abbrev CXT := List Env → Hp → Shared → XK → Value → Shared → Prop
/-- the state at a call -/
structure Env0 (P : Program) (w : World) (K : PySem.W.Frag) (mg : Str → Option Value) (base : Heap) (A : Around) (outer : List Env) (s : Shared) (H : Hp) : Prop where
  frames : A.frames = some outer
  mod : Mod K mg base
  bs : ∀ b o, base.get? b = some o → s.heap.get? b = some o ∧ H b = none
  bsz : base.objs.size ≤ s.heap.objs.size
  funs : s.heap.FunFrames base outer
  frf : ∀ b ∈ frs outer, H b = none
  hok : HOk P w H s.heap
  bare : AllBare s.gens
/-- a call's end -/
def CE (outer : List Env) (P : Program) (w : World) (H : Hp) (s : Shared) (Q : VK) (u : Value) (s' : Shared) : Prop :=
  ∃ v H', s'.os = s.os ∧ AllBare s'.gens ∧ Un (frs outer) [] H H' s.heap s'.heap ∧ HOk P w H' s'.heap ∧ RelV v u ∧ Q v H'
def CR (CX : CXT) (outer : List Env) (P : Program) (w : World) (H : Hp) (s : Shared) (Q : VK) (E : XK) (r : Result) (s' : Shared) : Prop :=
  match r with
  | .ok (.ret u) => CE outer P w H s Q u s'
  | .ok _ => False
  | .error e => CX outer H s E e s'
structure FnOk (P : Program) (w : World) (K : PySem.W.Frag) (mg : Str → Option Value) (base : Heap) (CX : CXT) (k : Nat) (f : Addr) (fd : FuncData) (ps : List Str) (sp : Sp) : Prop where
  len : ∀ vs H Q E, sp vs H Q E → vs.length = ps.length
  run : ∀ (A : Around) (outer : List Env) (s : Shared) (H : Hp) (args : Args) (us : List Value) (vs : List V) (Q : VK) (E : XK), Room k A → Env0 P w K mg base A outer s H → BindsTo s fd args (ps.zip us) → Vals vs us → sp vs H Q E →
    codeAny (model P w) A (.call (.ref f) args) (CR CX outer P w H s Q E) s
theorem FnOk.mono {P : Program} {w : World} {K : PySem.W.Frag} {mg : Str → Option Value} {base : Heap} {CX : CXT} {j k : Nat} {f : Addr} {fd : FuncData} {ps : List Str} {sp : Sp} (F : FnOk P w K mg base CX j f fd ps sp) (h : j ≤ k) :
    FnOk P w K mg base CX k f fd ps sp := ⟨F.len, fun A outer s H args us vs Q E hr => F.run A outer s H args us vs Q E (hr.mono h)⟩
/-- a weaker promise -/
theorem FnOk.imp {P : Program} {w : World} {K : PySem.W.Frag} {mg : Str → Option Value} {base : Heap} {CX : CXT} {k : Nat} {f : Addr} {fd : FuncData} {ps : List Str} {sp sp' : Sp} (F : FnOk P w K mg base CX k f fd ps sp)
    (h : ∀ vs H Q E, sp' vs H Q E → sp vs H Q E) : FnOk P w K mg base CX k f fd ps sp' :=
  ⟨fun vs H Q E q => F.len vs H Q E (h _ _ _ _ q), fun A outer s H args us vs Q E hr he hb hv hs => F.run A outer s H args us vs Q E hr he hb hv (h _ _ _ _ hs)⟩
theorem Env0.make {P : Program} {w : World} {K : PySem.W.Frag} {mg : Str → Option Value} {base : Heap} {A : Around} {outer : List Env} {s : Shared} {H : Hp} (e : Env0 P w K mg base A outer s H) (C : Addr) (us : List Value) (kw : List (Str × Value)) :
    Env0 P w K mg base (A.under (.builtin "type.__call__" ⟨.ref C :: us, kw⟩)) outer s H := ⟨by first | exact e.frames | (simpa [Around.under, Code.envs, Code.isFrame, pushEnvs] using e.frames), e.mod, e.bs, e.bsz, e.funs, e.frf, e.hok, e.bare⟩
section
variable {X : Cx} {pins : List (Addr × Obj)} {σ : St} {H : Hp} {s s' : Shared}
/-- from a body: what a callee wants -/
theorem Inv.env0 (I : Inv X pins σ H s) : Env0 X.prog X.w X.K X.mg X.base X.A X.stack s H :=
  ⟨I.ok.frames, I.ok.mod, I.bs, Nat.le_trans I.ok.bsz I.sz, I.stack, I.stkFree, I.hok, I.bare⟩
/-- behind a call -/
theorem Inv.after {Q : VK} {u : Value} (I : Inv X pins σ H s) (h : CE X.stack X.prog X.w H s Q u s') : EP X pins σ Q u s' := by
  obtain ⟨v, H', os, bare, un, hok, r, q⟩ := h
  obtain ⟨hh, g, d, t, os'⟩ := s'
  obtain rfl : os' = s.os := os
  exact ⟨v, H', I.call (h' := hh) (g' := g) (d' := d) (t' := t) (ch := []) un hok bare (fun b z => absurd z (by simp)), r, q⟩
end

/-- f(..): the written arguments, then the defaults dvs; E: what is wanted of an exception -/
def tCall (sp : Sp) (dvs : List V) (E : XK) (t : TA) : TE := fun σ H Q => t σ H fun vs H1 => sp (vs ++ dvs) H1 Q E
/-- o.m(..) of an instance of the class at C -/
def tMeth (C : Addr) (m : Str) (sp : Sp) (dvs : List V) (E : XK) (ta : TE) (t : TA) : TE := fun σ H Q => ta σ H fun x H1 => ∃ a dx fs, x = .ref a ∧ H1 a = some (.ins C dx fs) ∧ fs.lookup m = none ∧
  t σ H1 fun vs H2 => sp (x :: (vs ++ dvs)) H2 Q E
/-- C(..): a new instance and its dict, then __init__ -/
def tMake (C : Addr) (sp : Sp) (dvs : List V) (E : XK) (t : TA) : TE := fun σ H Q => t σ H fun vs H1 => ∀ x dx, H1 x = none → H1 dx = none → dx ≠ x →
  sp (.ref x :: (vs ++ dvs)) (upd (upd H1 dx (.own x)) x (.ins C dx [])) (fun v H2 => v = .non ∧ Q (.ref x) H2) E
/-- how the parameters are bound: us the positional arguments, kw the keywords' values by name, ds the defaults that fill up -/
def Binds (K : PySem.W.Frag) (fd : FuncData) (ps : List Str) (ds : List Value) : Prop :=
  ∀ (s : Shared) (us : List Value), K.In s.heap → (us ++ ds).length = ps.length → BindsTo s fd ⟨us, []⟩ (ps.zip (us ++ ds))
/-- every parameter is given -/
theorem Binds.all {K : PySem.W.Frag} {fd : FuncData} {ps : List Str} (h : ∀ us : List Value, us.length = ps.length → bindArgs fd ⟨us, []⟩ = pure (ps.zip us)) : Binds K fd ps [] := fun s us _ hl => by
  rw [List.append_nil] at hl ⊢
  exact .of_eq (h us hl)
/-- an exception of a callee reaches what this body wants of exceptions -/
def Passes (CX : CXT) (X : Cx) (E : XK) : Prop := ∀ (pins : List (Addr × Obj)) (σ : St) (H : Hp) (s : Shared) (e : Value) (s' : Shared), Inv X pins σ H s → CX X.stack H s E e s' → X.xe e s'
section
variable {X : Cx} {CX : CXT} {k : Nat} {f C : Addr} {fd : FuncData} {ps : List Str} {sp : Sp} {dvs : List V} {ds : List Value} {E : XK} {x m : Str} {p pos apos : Pos} {e o : Expr} {es : List Expr} {ta : TE} {t : TA}

/-- the callee runs -/
theorem run_fn {pins : List (Addr × Obj)} {σ : St} {H : Hp} {s : Shared} {Q : VK} {us : List Value} {vs : List V} (F : FnOk X.prog X.w X.K X.mg X.base CX k f fd ps sp) (hr : Room k X.A) (hb : Binds X.K fd ps ds) (hd : Vals dvs ds) (hx : Passes CX X E)
    (I : Inv X pins σ H s) (r : Vals vs us) (h : sp (vs ++ dvs) H Q E) : wpAny (model X.prog X.w) X.A (call (.ref f) us) (EP X pins σ Q) X.xe s := by
  have r2 : Vals (vs ++ dvs) (us ++ ds) := r.append hd
  have hl : (us ++ ds).length = ps.length := by rw [← r2.length]; exact F.len _ _ _ _ h
  refine wpAny_call (codeAny_mono (F.run X.A X.stack s H ⟨us, []⟩ (us ++ ds) (vs ++ dvs) Q E hr I.env0 (hb s us I.kIn hl) r2 h) fun r s' hq => ?_)
  cases r with
  | error e => exact hx pins σ H s e s' I hq
  | ok fl =>
    cases fl with
    | ret u => exact I.after hq
    | next => exact False.elim hq
    | brk => exact False.elim hq
    | cont => exact False.elim hq
theorem pe_call (F : FnOk X.prog X.w X.K X.mg X.base CX k f fd ps sp) (hr : Room k X.A) (hg : Gl X x) (hm : X.mg x = some (.ref f)) (hk : PySem.W.keepIn X.K (.ref f) = true) (hb : Binds X.K fd ps ds) (hd : Vals dvs ds) (hx : Passes CX X E)
    (ha : PA X (e :: es) t) (hdb : (x == ("__debug__" : Str)) = false := by decide) (he : starEach (e :: es) X.env = (false, eval e X.env) :: starEach es X.env := by rfl) (hpl : (backTo pos (starEach es X.env)).any (·.1) = false := by rfl) :
    PE X (.Call (.Name x p) (e :: es) [] pos) (tCall sp dvs E t) := by
  intro pins s σ H Q I h
  refine wpAny_Call_Name_kw (ld_glob I hg hm ?_ hdb)
  refine PySem.W.callWith_K (h₀ := X.base) I.ok.mod.kin hk (thn (ha pos pins s σ H _ I h) fun us s1 ⟨vs, H1, I1, r, q⟩ => ⟨I1.kIn, ?_⟩) he hpl
  exact run_fn F hr hb hd hx I1 r q
/-- o.m(e, ..) -/
theorem pe_meth {pl : Sem Bool} (he : PE X o ta) (c : Cls X.K C) (hm : Meth X.K C m f) (F : FnOk X.prog X.w X.K X.mg X.base CX k f fd ps sp) (hr : Room k X.A) (hb : Binds X.K fd ps ds) (hd : Vals dvs ds) (hx : Passes CX X E) (ha : PA X (e :: es) t)
    (hst : starEach (e :: es) X.env = (false, eval e X.env) :: starEach es X.env := by rfl) (hpl : (backTo pos (starEach es X.env)).any (·.1) = false := by rfl)
    (ht : eval (.Call (.Attribute o m apos) (e :: es) [] pos) X.env = (do
      let ov ← eval o X.env
      standAt apos.atName
      let (f, first) ← holding [ov] (getMethod ov m pl)
      callWith pos f first (backTo pos (starEach (e :: es) X.env)) (backToKw pos (keywordEach [] X.env))) := by rfl) :
    PE X (.Call (.Attribute o m apos) (e :: es) [] pos) (tMeth C m sp dvs E ta t) := by
  intro pins s σ H Q I h
  refine PySem.W.methodCall_KW (pl := pl) (thn (he pins s σ H _ I h) fun u s1 ⟨x, H1, I1, rx, a, dx, fs, ex, ea, l, q⟩ => ?_) ht
  subst ex
  obtain rfl : u = Value.ref a := rx
  refine getmeth_ok I1 ea c hm l ?_
  refine PySem.W.callWith_K (first := [.ref a]) (h₀ := X.base) I.ok.mod.kin hm.kp (thn (ha pos pins s1 σ H1 _ I1 q) fun us s2 ⟨vs, H2, I2, r, q2⟩ => ⟨I2.kIn, ?_⟩) hst hpl
  exact run_fn (us := .ref a :: us) (vs := .ref a :: vs) F hr hb hd hx I2 (.cons rfl r) q2
/-- o.m() -/
theorem pe_meth0 {pl : Sem Bool} (he : PE X o ta) (c : Cls X.K C) (hm : Meth X.K C m f) (F : FnOk X.prog X.w X.K X.mg X.base CX k f fd ps sp) (hr : Room k X.A) (hb : Binds X.K fd ps ds) (hd : Vals dvs ds) (hx : Passes CX X E)
    (ht : eval (.Call (.Attribute o m apos) [] [] pos) X.env = (do
      let ov ← eval o X.env
      standAt apos.atName
      let (f, first) ← holding [ov] (getMethod ov m pl)
      callWith pos f first (backTo pos (starEach [] X.env)) (backToKw pos (keywordEach [] X.env))) := by rfl) :
    PE X (.Call (.Attribute o m apos) [] [] pos) (tMeth C m sp dvs E ta tNil) := by
  intro pins s σ H Q I h
  refine PySem.W.methodCall_KW (pl := pl) (thn (he pins s σ H _ I h) fun u s1 ⟨x, H1, I1, rx, a, dx, fs, ex, ea, l, q⟩ => ?_) ht
  subst ex
  obtain rfl : u = Value.ref a := rx
  refine getmeth_ok I1 ea c hm l ?_
  exact PySem.W.callWith_K0 (first := [.ref a]) I1.kIn hm.kp (run_fn (us := [.ref a]) (vs := [.ref a]) F hr hb hd hx I1 (.cons rfl .nil) q)
/-- what a class must have to be made -/
structure Mk (K : PySem.W.Frag) (C f : Addr) : Prop where
  makes : PySem.W.makesIn K C = true
  init : PySem.W.findIn K (.ref C) "__init__" = some (some (.ref f))
  fn : PySem.W.isFn K (.ref f) = true
  kp : PySem.W.keepIn K (.ref C) = true
theorem run_make {pins : List (Addr × Obj)} {σ : St} {H : Hp} {s : Shared} {Q : VK} {us : List Value} {vs : List V} (M : Mk X.K C f) (F : FnOk X.prog X.w X.K X.mg X.base CX k f fd ps sp) (hr : Room (k + 1) X.A) (hb : Binds X.K fd ps ds) (hd : Vals dvs ds)
    (hx : Passes CX X E) (I : Inv X pins σ H s) (r : Vals vs us)
    (h : ∀ x dx, H x = none → H dx = none → dx ≠ x → sp (.ref x :: (vs ++ dvs)) (upd (upd H dx (.own x)) x (.ins C dx [])) (fun v H2 => v = .non ∧ Q (.ref x) H2) E) :
    wpAny (model X.prog X.w) X.A (call (.ref C) us) (EP X pins σ Q) X.xe s := by
  have hq := h (s.heap.objs.size + 1) s.heap.objs.size (I.hok.fresh (Nat.le_succ _)) (I.hok.fresh (Nat.le_refl _)) (Nat.ne_of_lt (Nat.lt_succ_self _))
  have I2 := Inv.made (C := C) I
  have r2 : Vals (V.ref (s.heap.objs.size + 1) :: (vs ++ dvs)) (Value.ref (s.heap.objs.size + 1) :: (us ++ ds)) := .cons rfl (r.append hd)
  have hl : (Value.ref (s.heap.objs.size + 1) :: us ++ ds).length = ps.length := by
    have e := r2.length
    rw [F.len _ _ _ _ hq] at e
    exact e.symm
  refine wpAny_call (make_map (f := f) I.kIn M.makes M.init (beq_iff_eq.mp M.fn) (codeAny_mono (F.run _ X.stack _ _ ⟨Value.ref (s.heap.objs.size + 1) :: us, []⟩ (Value.ref (s.heap.objs.size + 1) :: (us ++ ds)) _ _ E (hr.make C us [])
    (I2.env0.make C us []) (hb _ (Value.ref (s.heap.objs.size + 1) :: us) I2.kIn hl) r2 hq) fun r s' hq' => ?_))
  cases r with
  | error e => exact hx pins σ _ _ e s' I2 hq'
  | ok fl =>
    cases fl with
    | ret u =>
      obtain ⟨v, H', I3, rv, ev, q3⟩ := I2.after hq'
      subst ev
      exact ⟨rv, ⟨V.ref (s.heap.objs.size + 1), H', I3, rfl, q3⟩⟩
    | next => exact False.elim hq'
    | brk => exact False.elim hq'
    | cont => exact False.elim hq'
theorem pe_make (M : Mk X.K C f) (F : FnOk X.prog X.w X.K X.mg X.base CX k f fd ps sp) (hr : Room (k + 1) X.A) (hg : Gl X x) (hm : X.mg x = some (.ref C)) (hb : Binds X.K fd ps ds) (hd : Vals dvs ds) (hx : Passes CX X E)
    (ha : PA X (e :: es) t) (hdb : (x == ("__debug__" : Str)) = false := by decide) (he : starEach (e :: es) X.env = (false, eval e X.env) :: starEach es X.env := by rfl) (hpl : (backTo pos (starEach es X.env)).any (·.1) = false := by rfl) :
    PE X (.Call (.Name x p) (e :: es) [] pos) (tMake C sp dvs E t) := by
  intro pins s σ H Q I h
  refine wpAny_Call_Name_kw (ld_glob I hg hm ?_ hdb)
  refine PySem.W.callWith_K (h₀ := X.base) I.ok.mod.kin M.kp (thn (ha pos pins s σ H _ I h) fun us s1 ⟨vs, H1, I1, r, q⟩ => ⟨I1.kIn, ?_⟩) he hpl
  exact run_make M F hr hb hd hx I1 r q
end

section
variable {X : Cx} {CX : CXT} {k : Nat} {f C : Addr} {fd : FuncData} {ps ks : List Str} {sp : Sp} {E : XK} {x m : Str} {p pos apos kpos : Pos} {e o : Expr} {es : List Expr} {kws : List Keyword} {te ta : TE} {t tk : TA} {nm : Option Str}
variable {g : List Value → List Value → List Value} {gV : List V → List V → List V}
end

/-- names: the parameters first -/
structure FnScope (N P : List Str) (sc : Scope) : Prop where
  kind : sc.kind = .function
  co : sc.isCoroutine = false
  gen : sc.isGenerator = false
  nd : N.Nodup
  pre : N.take P.length = P
  par : ∀ x ∈ P, sc.names.lookup x = some .local ∨ sc.names.lookup x = some .cell
  nofree : ∀ y ∈ sc.names, y.2 ≠ .free
theorem bindL_out {kindOf : Str → Option NameKind} {x : Str} : ∀ {binds : List (Str × Value)} {m : Str → Option Value}, (∀ v, (x, v) ∉ binds) → bindL kindOf binds m x = m x
  | [], _, _ => rfl
  | (n, v) :: r, m, h => by
    unfold bindL
    rw [bindL_out fun w hw => h w (List.mem_cons_of_mem _ hw)]
    split
    · have : x ≠ n := by rintro rfl; exact h v List.mem_cons_self
      simp [this]
    · rfl
theorem bindC_out {kindOf : Str → Option NameKind} {x : Str} : ∀ {binds : List (Str × Value)} {m : Str → Option Value}, (∀ v, (x, v) ∉ binds) → bindC kindOf binds m x = m x
  | [], _, _ => rfl
  | (n, v) :: r, m, h => by
    unfold bindC
    rw [bindC_out fun w hw => h w (List.mem_cons_of_mem _ hw)]
    split
    · rfl
    · have : x ≠ n := by rintro rfl; exact h v List.mem_cons_self
      simp [this]
theorem bindL_get {kindOf : Str → Option NameKind} {x : Str} {v : Value} : ∀ {P : List Str} {vs : List Value} {i : Nat} {m : Str → Option Value}, P.Nodup → P[i]? = some x → vs[i]? = some v → kindOf x = some .local →
    bindL kindOf (P.zip vs) m x = some v
  | [], _, _, _, _, h, _, _ => by simp at h
  | _ :: _, [], _, _, _, _, h, _ => by simp at h
  | p :: P, w :: vs, 0, m, nd, h1, h2, hk => by
    simp at h1 h2; subst h1; subst h2
    show bindL kindOf ((p, w) :: P.zip vs) m p = _
    unfold bindL
    rw [bindL_out fun v hv => (List.nodup_cons.mp nd).1 (List.of_mem_zip hv).1, if_pos hk]
    simp
  | p :: P, w :: vs, i + 1, m, nd, h1, h2, hk => by
    show bindL kindOf ((p, w) :: P.zip vs) m x = _
    unfold bindL
    exact bindL_get (i := i) (List.nodup_cons.mp nd).2 (by simpa using h1) (by simpa using h2) hk
theorem bindC_get {kindOf : Str → Option NameKind} {x : Str} {v : Value} : ∀ {P : List Str} {vs : List Value} {i : Nat} {m : Str → Option Value}, P.Nodup → P[i]? = some x → vs[i]? = some v → kindOf x ≠ some .local →
    bindC kindOf (P.zip vs) m x = some v
  | [], _, _, _, _, h, _, _ => by simp at h
  | _ :: _, [], _, _, _, _, h, _ => by simp at h
  | p :: P, w :: vs, 0, m, nd, h1, h2, hk => by
    simp at h1 h2; subst h1; subst h2
    show bindC kindOf ((p, w) :: P.zip vs) m p = _
    unfold bindC
    rw [bindC_out fun v hv => (List.nodup_cons.mp nd).1 (List.of_mem_zip hv).1, if_neg hk]
    simp
  | p :: P, w :: vs, i + 1, m, nd, h1, h2, hk => by
    show bindC kindOf ((p, w) :: P.zip vs) m x = _
    unfold bindC
    exact bindC_get (i := i) (List.nodup_cons.mp nd).2 (by simpa using h1) (by simpa using h2) hk
/-- the names' values at the entry -/
def start (N : List Str) (vs : List V) : St := vs.map some ++ List.replicate (N.length - vs.length) none
/-- the context of a def's body, at its entry; an exception leaves the frame, then lies as CX says -/
def cxOf (CX : CXT) (P : Program) (w : World) (K : PySem.W.Frag) (mg : Str → Option Value) (base : Heap) (N : List Str) (qual : Str) (scope : Scope) (f : Addr) (cd : Value) (A : Around) (outer : List Env) (s : Shared) (H : Hp) (E : XK) : Cx where
  prog := P
  w := w
  K := K
  mg := mg
  base := base
  A := A.deeper (envOfC qual scope s.heap.objs.size f cd)
  N := N
  s₀ := s
  H₀ := H
  env := envOfC qual scope s.heap.objs.size f cd
  outer := outer
  stack := envOfC qual scope s.heap.objs.size f cd :: outer
  ex := []
  calm := true
  fn := fun _ => true
  pn := []
  xe := fun e s' => wpAny (model P w) (A.deeper (envOfC qual scope s.heap.objs.size f cd)) (leaving (envOfC qual scope s.heap.objs.size f cd) e) (fun _ s'' => CX outer H s E e s'') (fun e' s'' => CX outer H s E e' s'') s'
theorem cell_has {sc : Scope} {n : Nat} {x : Str} (h : sc.names.lookup x = some .cell) : ∃ c, (cellsFrom n sc.names []).lookup x = some c := by
  have q := PySem.W.cellsFrom_some sc.names n [] (.inl h)
  exact Option.isSome_iff_exists.mp q
theorem inv_start {CX : CXT} {P : Program} {w : World} {K : PySem.W.Frag} {mg : Str → Option Value} {base : Heap} {N ps : List Str} {qual : Str} {scope : Scope} {f : Addr} {cd : Value} {A : Around} {outer : List Env} {s s1 : Shared} {H : Hp} {E : XK} {us : List Value} {vs : List V}
    (S : FnScope N ps scope) (hd : A.handled = none) (e0 : Env0 P w K mg base A outer s H) (hl : vs.length = ps.length) (r : Vals vs us)
    (x : InCallC s s.heap.objs.size (bindL (envOfC qual scope s.heap.objs.size f cd).kindOf (ps.zip us) fun _ => none) (cellsFrom (s.heap.objs.size + 1) scope.names []) (bindC (envOfC qual scope s.heap.objs.size f cd).kindOf (ps.zip us) fun _ => none) s1) :
    Inv (cxOf CX P w K mg base N qual scope f cd A outer s H E) [] (start N vs) H s1 := by
  have hpl : ps.length ≤ N.length := by have := congrArg List.length S.pre; rw [List.length_take] at this; omega
  obtain ⟨h1, tk, rfl, hk⟩ := x.done
  have noA : ∀ b : Addr, b ∉ (cxOf CX P w K mg base N qual scope f cd A outer s H E).ex := fun b z => absurd (show b ∈ ([] : List Addr) from z) (by simp)
  refine ⟨⟨e0.mod, S.kind, rfl, rfl, Nat.le_refl _, fun y z c h1 h2 => ?_, fun y hy => ?_, fun y c _ h => ?_, fun _ => hd, Around.frames_deeper e0.frames, .inr ⟨rfl, rfl⟩, fun b z => absurd z (noA b), e0.bs, e0.bsz, fun b _ _ => noA b, fun b z => absurd z (noA b), e0.funs, e0.frf⟩,
    rfl, e0.bare, Un.kept hk, ⟨_, x.toInCall.ns, fun i y v h1 h2 h3 => ?_⟩, fun y c h => ⟨_, x.cell y c h⟩, e0.hok.fresh (Nat.le_refl _), fun y c h => ?_, fun p hp => absurd (show p ∈ ([] : List (Addr × Obj)) from hp) (by simp), e0.hok.kept hk, ?_⟩
  · exact name_of_addr x.apart (PySem.mem_of_lookup h1) (PySem.mem_of_lookup h2)
  · have hy : scope.names.lookup y = some .cell ∨ scope.names.lookup y = some .free := hy
    rcases hy with hy | hy
    · exact cell_has hy
    · exact absurd rfl (S.nofree _ (PySem.mem_of_lookup hy))
  · exact Nat.le_of_lt (x.above y c (PySem.mem_of_lookup h))
  · have hi : i < vs.length := by
      unfold start at h2
      by_cases hi : i < vs.length
      · exact hi
      · rw [List.getElem?_append_right (by simpa using hi)] at h2
        rw [List.getElem?_replicate] at h2
        split at h2 <;> cases h2
    have ha : vs[i]? = some v := by
      unfold start at h2
      rw [List.getElem?_append_left (by simpa using hi), List.getElem?_map] at h2
      cases e : vs[i]? with
      | none => rw [e] at h2; cases h2
      | some a => rw [e] at h2; cases h2; rfl
    obtain ⟨u, hu, rv⟩ := r.get ha
    have hp : ps[i]? = some y := by
      rw [← S.pre, List.getElem?_take_of_lt (by omega)]; exact h1
    have ndP : ps.Nodup := by rw [← S.pre]; exact S.nd.sublist (List.take_sublist _ _)
    refine ⟨u, rv, ?_⟩
    rcases S.par y (List.mem_of_getElem? hp) with k | k
    · exact .inl ⟨k, bindL_get ndP hp hu k⟩
    · obtain ⟨c, e⟩ := cell_has (n := s.heap.objs.size + 1) k
      refine .inr ⟨.inl k, c, e, ?_⟩
      have q := x.cell y c e
      rw [bindC_get ndP hp hu (by show scope.names.lookup y ≠ _; rw [k]; decide)] at q
      exact q
  · exact e0.hok.fresh (Nat.le_of_lt (x.above y c (PySem.mem_of_lookup h)))
  · unfold start
    show _ = N.length
    rw [List.length_append, List.length_map, List.length_replicate]
    omega
/-- THE RULE: a def (or a method) of the text, by its body. The body's reading t is chosen for each entry; it is run at the parameters' values -/
theorem fn_of {CX : CXT} {P : Program} {w : World} {K : PySem.W.Frag} {mg : Str → Option Value} {base : Heap} {k : Nat} {f : Addr} {name qual : Str} {params : Arguments} {body : List Stmt} {scope : Scope} {dV kV doc pm cdv ct oc : Value} {an od : Option Addr}
    {osl : Array (Option Value)} {N ps : List Str} {sp : Sp} (lk : K.lookup f = some ⟨oc, od, .func (PySem.W.fnOf name qual params body scope dV kV doc pm an cdv ct), osl⟩) (hcd : PySem.W.codeIn K cdv qual = true) (S : FnScope N ps scope)
    (len : ∀ vs H Q E, sp vs H Q E → vs.length = ps.length)
    (hbody : ∀ (A : Around) (outer : List Env) (s : Shared) (H : Hp) (vs : List V) (Q : VK) (E : XK), Room k (A.deeper (envOfC qual scope s.heap.objs.size f cdv)) → sp vs H Q E →
      ∃ t, PSs (cxOf CX P w K mg base N qual scope f cdv A outer s H E) body t ∧ t { nx := fun _ H' => Q .non H', rt := Q } (start N vs) H) :
    FnOk P w K mg base CX (k + 1) f (PySem.W.fnOf name qual params body scope dV kV doc pm an cdv ct) ps sp := by
  refine ⟨len, fun A outer s H args us vs Q E hr e0 hb r hsp => ?_⟩
  have hl := len _ _ _ _ hsp
  have KX : K.In s.heap := e0.mod.kin.keeps fun b o e => (e0.bs b o e).1
  have lim : s.heap.NoLimit := e0.mod.nolimit.keeps fun b o e => (e0.bs b o e).1
  have hkind : ∀ y ∈ ps.zip us, scope.names.lookup y.1 = some .local ∨ (scope.names.lookup y.1 = some .cell ∧ ((cellsFrom (s.heap.objs.size + 1) scope.names []).lookup y.1).isSome = true) := fun ⟨n, v⟩ hy => by
    rcases S.par n (List.of_mem_zip hy).1 with q | q
    · exact .inl q
    · exact .inr ⟨q, PySem.W.cellsFrom_some _ _ _ (.inl q)⟩
  refine codeAny_call_function hr.depth (KX _ _ lk) rfl S.co S.gen rfl (PySem.W.codeRec_of KX hcd) (hb _ _ _ _ ?_)
  refine wpAny_newFunctionEnv_cells S.kind hkind fun env he s1 x => ?_
  subst he
  refine ⟨lim.keeps x.toInCall.keep, codeAny_func ?_⟩
  obtain ⟨t, ht, hq⟩ := hbody A outer s H vs Q E (hr.deeper _) hsp
  have I : Inv (cxOf CX P w K mg base N qual scope f cdv A outer s H E) [] (start N vs) H s1 := inv_start S hr.hd e0 hl r x
  refine wpAny_mono (ht [] s1 (start N vs) H _ I hq) (fun fl s' hs => ?_) fun e s' hs => hs
  have fin : ∀ {σ' : St} {H' : Hp} {v : V} {u : Value}, Inv (cxOf CX P w K mg base N qual scope f cdv A outer s H E) [] σ' H' s' → RelV v u → Q v H' → CE outer P w H s Q u s' :=
    fun {σ' H' v u} J rv q => ⟨v, H', J.os, J.bare, J.base, J.hok, rv, q⟩
  cases fl with
  | ret u =>
    obtain ⟨v, σ', H', J, rv, q⟩ := hs
    exact fin J rv q
  | next =>
    obtain ⟨σ', H', J, q⟩ := hs
    exact fin (v := V.non) (u := Value.none) J rfl q
  | brk =>
    obtain ⟨_, _, _, q⟩ := hs
    exact False.elim q
  | cont =>
    obtain ⟨_, _, _, q⟩ := hs
    exact False.elim q
end L2

namespace L2
open PySem PySem.Spec PyProof.Rows
section
variable {X : Cx} {x : Str} {p pos : Pos} {e : Expr} {es : List Expr} {t : TA} {id T : String} {r : List V → Hp → VK → Prop}

def tCB (r : List V → Hp → VK → Prop) (t : TA) : TE := fun σ H Q => t σ H fun vs H1 => r vs H1 Q
/-- f(e, ..), f a built-in function -/
theorem pe_callB (hc : CallR X (.builtin id) r) (hg : Gl X x) (hm : X.mg x = none) (hv : bootBuiltins x = some (.builtin id)) (ha : PA X (e :: es) t) (hn : x ≠ "__name__" := by decide) (hdb : (x == ("__debug__" : Str)) = false := by decide)
    (he : starEach (e :: es) X.env = (false, eval e X.env) :: starEach es X.env := by rfl) (hpl : (backTo pos (starEach es X.env)).any (·.1) = false := by rfl) : PE X (.Call (.Name x p) (e :: es) [] pos) (tCB r t) := by
  intro pins s σ H Q I h
  refine wpAny_Call_Name_kw (ld_blt I hg hm hv ?_ hn hdb)
  exact PyProof.Rows.callWith_builtin1 (thn (ha pos pins s σ H _ I h) fun us s1 ⟨vs, H1, I1, r1, q1⟩ => hc pins s1 σ H1 vs us Q I1 r1 q1) he hpl
end
end L2

namespace L2
open PySem PySem.Spec PyProof.Rows

section
variable {κ : Type} [DecidableEq κ]
def valV (kvs : List (κ × V)) (k : κ) : Option V := (kvs.find? fun kv => decide (kv.1 = k)).map (·.2)
/-- in its place, or at the end -/
def putK (kvs : List (κ × V)) (k : κ) (v : V) : List (κ × V) :=
  if (kvs.any fun kv => decide (kv.1 = k)) = true then kvs.map (fun kv => if kv.1 = k then (kv.1, v) else kv) else kvs ++ [(k, v)]
theorem valV_pos {p : κ × V} {r : List (κ × V)} {k : κ} (e : p.1 = k) : valV (p :: r) k = some p.2 := by simp [valV, List.find?_cons, e]
theorem valV_neg {p : κ × V} {r : List (κ × V)} {k : κ} (e : ¬ p.1 = k) : valV (p :: r) k = valV r k := by simp [valV, List.find?_cons, e]
theorem valV_any (k : κ) : ∀ kvs : List (κ × V), (kvs.any fun kv => decide (kv.1 = k)) = (valV kvs k).isSome
  | [] => rfl
  | p :: r => by
    rw [List.any_cons]
    by_cases e : p.1 = k
    · simp only [valV_pos e, decide_eq_true e, Bool.true_or, Option.isSome_some]
    · rw [valV_neg e, decide_eq_false e, Bool.false_or]; exact valV_any k r
theorem valV_map (k j : κ) (y : V) : ∀ kvs : List (κ × V), valV (kvs.map fun kv => if kv.1 = k then (kv.1, y) else kv) j = (valV kvs j).map fun x => if j = k then y else x
  | [] => rfl
  | p :: r => by
    have ih := valV_map k j y r
    rw [List.map_cons]
    by_cases h : p.1 = k
    · rw [if_pos h]
      by_cases e : p.1 = j
      · rw [valV_pos (p := (p.1, y)) e, valV_pos e, Option.map_some, if_pos (e.symm.trans h)]
      · rw [valV_neg (p := (p.1, y)) e, valV_neg e, ih]
    · rw [if_neg h]
      by_cases e : p.1 = j
      · rw [valV_pos (p := p) e, valV_pos e, Option.map_some, if_neg (fun z => h (e.trans z))]
      · rw [valV_neg (p := p) e, valV_neg e, ih]
theorem valV_snoc (k j : κ) (y : V) : ∀ kvs : List (κ × V), valV kvs k = none → valV (kvs ++ [(k, y)]) j = if j = k then some y else valV kvs j
  | [], _ => by
    by_cases e : k = j
    · rw [if_pos e.symm]; exact valV_pos (p := (k, y)) e
    · rw [if_neg (fun z => e z.symm)]; exact valV_neg (p := (k, y)) e
  | p :: r, hn => by
    rw [List.cons_append]
    have hk : ¬ p.1 = k := fun z => by rw [valV_pos z] at hn; cases hn
    rw [valV_neg hk] at hn
    have ih := valV_snoc k j y r hn
    by_cases e : p.1 = j
    · rw [valV_pos e, valV_pos e, if_neg (fun z => hk (e.trans z))]
    · rw [valV_neg e, valV_neg e, ih]
theorem valV_put (kvs : List (κ × V)) (k j : κ) (y : V) : valV (putK kvs k y) j = if j = k then some y else valV kvs j := by
  unfold putK
  by_cases a : (kvs.any fun kv => decide (kv.1 = k)) = true
  · rw [if_pos a, valV_map]
    rw [valV_any] at a
    by_cases e : j = k
    · obtain ⟨x, hx⟩ := Option.isSome_iff_exists.mp a
      rw [if_pos e, e, hx, Option.map_some, if_pos rfl]
    · rw [if_neg e]
      cases valV kvs j with
      | none => rfl
      | some x => rw [Option.map_some, if_neg e]
  · rw [if_neg a]
    refine valV_snoc k j y kvs ?_
    rw [valV_any] at a
    cases q : valV kvs k with
    | none => rfl
    | some x => rw [q] at a; exact (a rfl).elim
theorem length_putK (kvs : List (κ × V)) (k : κ) (v : V) : (putK kvs k v).length ≤ kvs.length + 1 := by
  unfold putK
  split
  · rw [List.length_map]; omega
  · rw [List.length_append, List.length_cons, List.length_nil]; omega
theorem putK_new {kvs : List (κ × V)} {k : κ} (v : V) (h : valV kvs k = none) : putK kvs k v = kvs ++ [(k, v)] := by
  unfold putK
  rw [valV_any, h]
  exact if_neg (by decide)
theorem RelO.isSome_eq {o : Option V} {u : Option Value} (r : RelO o u) : o.isSome = u.isSome := by
  cases o with
  | none => cases u with
    | none => rfl
    | some _ => exact (show False from r).elim
  | some _ => cases u with
    | none => exact (show False from r).elim
    | some _ => rfl
theorem RelO.getD {o : Option V} {u : Option Value} {d : V} {d' : Value} (r : RelO o u) (rd : RelV d d') : RelV (o.getD d) (u.getD d') := by
  cases o with
  | none => cases u with
    | none => exact rd
    | some _ => exact (show False from r).elim
  | some _ => cases u with
    | none => exact (show False from r).elim
    | some _ => exact r
/-- raw tables of the same keys -/
theorem KV.val {kvs : List (κ × V)} {vs : List (κ × Value)} (r : KV kvs vs) (k : κ) : RelO (valV kvs k) (valueAt vs k) := by
  unfold KV at r
  induction r with
  | nil => exact True.intro
  | @cons p q ps qs h t ih =>
    obtain ⟨h1, h2⟩ := h
    by_cases e : p.1 = k
    · have e' : q.1 = k := h1.symm.trans e
      have b : valueAt (q :: qs) k = some q.2 := by simp [valueAt, List.find?_cons, e']
      rw [valV_pos e, b]; exact h2
    · have e' : ¬ q.1 = k := fun z => e (h1.trans z)
      have b : valueAt (q :: qs) k = valueAt qs k := by simp [valueAt, List.find?_cons, e']
      rw [valV_neg e, b]; exact ih
theorem KV.any {kvs : List (κ × V)} {vs : List (κ × Value)} (r : KV kvs vs) (k : κ) : (kvs.any fun kv => decide (kv.1 = k)) = vs.any fun kv => decide (kv.1 = k) := by
  unfold KV at r
  induction r with
  | nil => rfl
  | cons h t ih => rw [List.any_cons, List.any_cons, ih, h.1]
theorem KV.repl {kvs : List (κ × V)} {vs : List (κ × Value)} (r : KV kvs vs) (k : κ) {y : V} {u : Value} (ry : RelV y u) :
    KV (kvs.map fun kv => if kv.1 = k then (kv.1, y) else kv) (vs.map fun kv => if kv.1 = k then (kv.1, u) else kv) := by
  unfold KV at r ⊢
  induction r with
  | nil => exact .nil
  | @cons p q ps qs h t ih =>
    rw [List.map_cons, List.map_cons]
    refine .cons ?_ ih
    obtain ⟨h1, h2⟩ := h
    by_cases e : p.1 = k
    · rw [if_pos e, if_pos (h1.symm.trans e)]; exact ⟨h1, ry⟩
    · rw [if_neg e, if_neg (fun z => e (h1.trans z))]; exact ⟨h1, h2⟩
theorem KV.put {kvs : List (κ × V)} {vs : List (κ × Value)} (r : KV kvs vs) (k : κ) {y : V} {u : Value} (ry : RelV y u) : KV (putK kvs k y) (stored vs k u) := by
  unfold putK stored
  rw [r.any k]
  by_cases e : (vs.any fun kv => decide (kv.1 = k)) = true
  · rw [if_pos e, if_pos e]; exact r.repl k ry
  · rw [if_neg e, if_neg e]; exact Paired.snoc r ⟨rfl, ry⟩
theorem KV.keys {kvs : List (κ × V)} {vs : List (κ × Value)} (r : KV kvs vs) : kvs.map (·.1) = vs.map (·.1) := by
  unfold KV at r
  induction r with
  | nil => rfl
  | cons h t ih => rw [List.map_cons, List.map_cons, ih, h.1]
theorem KV.length {kvs : List (κ × V)} {vs : List (κ × Value)} (r : KV kvs vs) : kvs.length = vs.length := Paired.length r
end


theorem kV_is {P : Program} {w : World} {k : Key} {u : Value} (r : RelV (kV k) u) : (mixKind P w).is k u = true := by
  cases k with
  | inl i => obtain ⟨t, e⟩ := (show ∃ t, u = Value.int i t from r); subst e; exact mixKind_int P w i t
  | inr x => obtain ⟨t, e⟩ := (show ∃ t, u = Value.str x t from r); subst e; exact mixKind_str P w x t
theorem items_are {P : Program} {w : World} : ∀ {ks : List Key} {us : List Value}, Vals (ks.map kV) us → ItemsAre (mixKind P w) ks us
  | [], _, r => by rw [List.map_nil] at r; cases r; exact .nil
  | k :: ks, _, r => by
    rw [List.map_cons] at r
    cases r with
    | cons h t => exact .cons (kV_is h) (items_are t)
/-- raw entries of a dict with tuple keys -/
abbrev KT (H : Hp) : List (List Key × V) → List (List Key × Addr × Value) → Prop := Paired fun p q => p.1 = q.1 ∧ H q.2.1 = some (.tup (p.1.map kV)) ∧ RelV p.2 q.2.2
theorem KT.val {H : Hp} {kvs : List (List Key × V)} {xs : List (List Key × Addr × Value)} (r : KT H kvs xs) (k : List Key) : RelO (valV kvs k) ((atKey xs k).map (·.2)) := by
  induction r with
  | nil => exact True.intro
  | @cons p q ps qs h t ih =>
    obtain ⟨h1, _, h2⟩ := h
    by_cases e : p.1 = k
    · have e' : q.1 = k := h1.symm.trans e
      have b : atKey (q :: qs) k = some q.2 := by simp [atKey, List.find?_cons, e']
      rw [valV_pos e, b]; exact h2
    · have e' : ¬ q.1 = k := fun z => e (h1.trans z)
      have b : atKey (q :: qs) k = atKey qs k := by simp [atKey, List.find?_cons, e']
      rw [valV_neg e, b]; exact ih
theorem KT.repl {H : Hp} {kvs : List (List Key × V)} {xs : List (List Key × Addr × Value)} (r : KT H kvs xs) (k : List Key) {y : V} {u : Value} (ry : RelV y u) :
    KT H (kvs.map fun kv => if kv.1 = k then (kv.1, y) else kv) (xs.map (putAt k u)) := by
  induction r with
  | nil => exact .nil
  | @cons p q ps qs h t ih =>
    rw [List.map_cons, List.map_cons]
    refine .cons ?_ ih
    obtain ⟨h1, h2, h3⟩ := h
    unfold putAt
    by_cases e : p.1 = k
    · rw [if_pos e, if_pos (h1.symm.trans e)]; exact ⟨h1, h2, ry⟩
    · rw [if_neg e, if_neg (fun z => e (h1.trans z))]; exact ⟨h1, h2, h3⟩
theorem KT.put {H : Hp} {kvs : List (List Key × V)} {xs : List (List Key × Addr × Value)} (r : KT H kvs xs) (k : List Key) {b : Addr} {y : V} {u : Value} (hb : H b = some (.tup (k.map kV))) (ry : RelV y u) :
    KT H (putK kvs k y) (storedH xs k b u) := by
  have e : (kvs.any fun kv => decide (kv.1 = k)) = (atKey xs k).isSome := by
    rw [valV_any, (r.val k).isSome_eq, Option.isSome_map]
  unfold putK storedH
  rw [e]
  by_cases q : (atKey xs k).isSome = true
  · rw [if_pos q, if_pos q]; exact r.repl k ry
  · rw [if_neg q, if_neg q]; exact Paired.snoc r ⟨rfl, hb, ry⟩
theorem KT.keeps {H H' : Hp} {kvs : List (List Key × V)} {xs : List (List Key × Addr × Value)} (r : KT H kvs xs) (ht : ∀ b ys, H b = some (.tup ys) → H' b = some (.tup ys)) : KT H' kvs xs :=
  Paired.mapP r fun _ _ z => ⟨z.1, ht _ _ z.2.1, z.2.2⟩
section
variable {P : Program} {w : World} {H : Hp} {h : Heap} {a : Addr}
theorem rd_of {u : HO} (ok : HOk P w H h) (e : Rd H a u) : ObjOk P w H h a u := e.ok ok
theorem dk_rd {kvs : List (Key × V)} (ok : HOk P w H h) (e : Rd H a (.dK kvs)) : kvs.length ≤ sizeLine ∧ (a == sysModules) = false ∧ ∃ vs, KV kvs vs ∧ h.DictOf (mixKind P w) a vs :=
  show ObjOk P w H h a (.dK kvs) from rd_of ok e
theorem dk_of {kvs : List (Key × V)} (ok : HOk P w H h) (e : H a = some (.dK kvs)) : kvs.length ≤ sizeLine ∧ (a == sysModules) = false ∧ ∃ vs, KV kvs vs ∧ h.DictOf (mixKind P w) a vs := dk_rd ok (.inl e)
/-- a tracked tuple of ints and texts is a key -/
theorem key_of {ks : List Key} (ok : HOk P w H h) (e : H a = some (.tup (ks.map kV))) : (tupleKind (mixKind P w)).is h ks a := by
  obtain ⟨_, its, r, o, h1, h2, n, h3⟩ := (show ObjOk P w H h a (.tup (ks.map kV)) from ok a _ e)
  exact ⟨o, its.toArray, n, h1, h2, h3, by simpa using items_are r⟩
theorem dt_rd {kvs : List (List Key × V)} (ok : HOk P w H h) (e : Rd H a (.dT kvs)) : kvs.length ≤ sizeLine ∧ (a == sysModules) = false ∧
    ∃ xs, KT H kvs xs ∧ h.DictOfH (tupleKind (mixKind P w)) a xs := by
  obtain ⟨z, y, xs, r, o, es, ep, h1, h2, h3, h4, h5⟩ := (show ObjOk P w H h a (.dT kvs) from rd_of ok e)
  refine ⟨z, y, xs, r, o, es, ep, h1, h2, h3, h4, fun x hx => ?_, h5⟩
  have all : ∀ {l : List (List Key × V)} {m : List (List Key × Addr × Value)}, KT H l m → ∀ x ∈ m, (tupleKind (mixKind P w)).is h x.1 x.2.1 := by
    intro l m q
    induction q with
    | nil => intro x hx; exact nomatch hx
    | @cons p q ps qs hq t ih =>
      intro x hx
      rcases List.mem_cons.mp hx with e | hx
      · subst e
        exact key_of ok (by rw [← hq.1]; exact hq.2.1)
      · exact ih x hx
  exact all r x hx
theorem dt_of {kvs : List (List Key × V)} (ok : HOk P w H h) (e : H a = some (.dT kvs)) : kvs.length ≤ sizeLine ∧ (a == sysModules) = false ∧
    ∃ xs, KT H kvs xs ∧ h.DictOfH (tupleKind (mixKind P w)) a xs := dt_rd ok (.inl e)
end

/-- what the dict at a holds at the key y -/
def DGet (H : Hp) (a : Addr) (y : V) (r : Option V) : Prop :=
  (∃ kvs k, Rd H a (.dK kvs) ∧ y = kV k ∧ r = valV kvs k) ∨ ∃ kvs k b, Rd H a (.dT kvs) ∧ y = .ref b ∧ H b = some (.tup (k.map kV)) ∧ r = valV kvs k
/-- the heap behind a[y] = v -/
def DPut (H : Hp) (a : Addr) (y v : V) (H' : Hp) : Prop :=
  (∃ kvs k, H a = some (.dK kvs) ∧ y = kV k ∧ kvs.length < sizeLine ∧ H' = upd H a (.dK (putK kvs k v))) ∨
  ∃ kvs k b, H a = some (.dT kvs) ∧ y = .ref b ∧ H b = some (.tup (k.map kV)) ∧ kvs.length < sizeLine ∧ H' = upd H a (.dT (putK kvs k v))
theorem DGet.k {H : Hp} {a : Addr} {kvs : List (Key × V)} {k : Key} (e : H a = some (.dK kvs)) : DGet H a (kV k) (valV kvs k) := .inl ⟨kvs, k, .inl e, rfl, rfl⟩
theorem DGet.t {H : Hp} {a b : Addr} {kvs : List (List Key × V)} {k : List Key} (e : H a = some (.dT kvs)) (eb : H b = some (.tup (k.map kV))) : DGet H a (.ref b) (valV kvs k) := .inr ⟨kvs, k, b, .inl e, rfl, eb, rfl⟩
theorem DPut.k {H : Hp} {a : Addr} {kvs : List (Key × V)} {k : Key} {v : V} (e : H a = some (.dK kvs)) (hl : kvs.length < sizeLine) : DPut H a (kV k) v (upd H a (.dK (putK kvs k v))) := .inl ⟨kvs, k, e, rfl, hl, rfl⟩
theorem DPut.t {H : Hp} {a b : Addr} {kvs : List (List Key × V)} {k : List Key} {v : V} (e : H a = some (.dT kvs)) (eb : H b = some (.tup (k.map kV))) (hl : kvs.length < sizeLine) :
    DPut H a (.ref b) v (upd H a (.dT (putK kvs k v))) := .inr ⟨kvs, k, b, e, rfl, eb, hl, rfl⟩
section
variable {X : Cx} {pins : List (Addr × Obj)} {σ : St} {H : Hp} {s : Shared} {a : Addr} {y v : V} {u r : Value} {o : Option V} {A : Around} {E : Value → Shared → Prop}

theorem Inv.big (I : Inv X pins σ H s) : sysModules < s.heap.objs.size := by
  have h : mainGlobals < s.heap.objs.size := (I.mod.glob.keeps I.bk).lt
  exact Nat.lt_trans (by decide) h
/-- d[y], there -/
theorem d_getItem {Q : Value → Shared → Prop} (hu : A.units + 1 < cLine) (I : Inv X pins σ H s) (g : DGet H a y (some v)) (ry : RelV y u) (h : ∀ w' s', Inv X pins σ H s' → RelV v w' → Q w' s') :
    wpAny (model X.prog X.w) A (getItem (.ref a) u) Q E s := by
  rcases g with ⟨kvs, k, e, ey, l⟩ | ⟨kvs, k, b, e, ey, eb, l⟩
  · subst ey
    obtain ⟨z, hd, vs, rel, dd⟩ := dk_rd I.hok e
    obtain ⟨w', hw, rw'⟩ := RelO.some_of (v := v) (o := valueAt vs k) (by rw [l]; exact rel.val k)
    exact wpAny_getItem_of (kV_is ry) dd.mapOf hw (h w' _ (I.tok _) rw')
  · subst ey
    cases (show u = Value.ref b from ry)
    obtain ⟨z, hd, xs, rel, dd⟩ := dt_rd I.hok e
    obtain ⟨w', hw, rw'⟩ := RelO.some_of (v := v) (o := (atKey xs k).map (·.2)) (by rw [l]; exact rel.val k)
    obtain ⟨p, hp, hp2⟩ := Option.map_eq_some_iff.mp hw
    refine wpAny_getItem_heap (tupleKind_room_in1 hu) (key_of I.hok eb) dd hp ?_
    rw [hp2]
    exact h w' _ (I.tok _) rw'
theorem d_notIn {Q : Value → Shared → Prop} (hu : A.units + 1 < cLine) (I : Inv X pins σ H s) (g : DGet H a y o) (ry : RelV y u) (h : ∀ s', Inv X pins σ H s' → Q (.bool (!o.isSome)) s') :
    wpAny (model X.prog X.w) A (compareOp .NotIn u (.ref a)) Q E s := by
  rcases g with ⟨kvs, k, e, ey, l⟩ | ⟨kvs, k, b, e, ey, eb, l⟩
  · subst ey
    obtain ⟨z, hd, vs, rel, dd⟩ := dk_rd I.hok e
    refine wpAny_notIn_of (kV_is ry) hd dd.mapOf ?_
    rw [← (rel.val k).isSome_eq, ← l]
    exact h _ (I.tok _)
  · subst ey
    cases (show u = Value.ref b from ry)
    obtain ⟨z, hd, xs, rel, dd⟩ := dt_rd I.hok e
    refine wpAny_notIn_heap (tupleKind_room_in1 hu) (key_of I.hok eb) hd dd ?_
    have q := (rel.val k).isSome_eq
    rw [Option.isSome_map] at q
    rw [← q, ← l]
    exact h _ (I.tok _)
/-- a dict's object is replaced -/
theorem d_write {h' : Heap} {t' : Nat} {ob : HO} (I : Inv X pins σ H s) (mu : Mut (H a)) (hs : Heap.SameBut a s.heap h') (he : ∃ q, h'.get? a = some q) (new : ObjOk X.prog X.w (upd H a ob) h' a ob) :
    Inv X pins σ (upd H a ob) { s with heap := h', toks := t' } :=
  I.write (x := a) (e := a) mu (.inl rfl) (fun b q hb z => (hs.2 b hb).trans z) he new
theorem dk_new {P : Program} {w : World} {H' : Hp} {h' : Heap} {kvs : List (Key × V)} {vs : List (Key × Value)} (z : kvs.length ≤ sizeLine) (hd : (a == sysModules) = false) (rel : KV kvs vs) (dd : h'.DictOf (mixKind P w) a vs) :
    ObjOk P w H' h' a (.dK kvs) := ⟨z, hd, vs, rel, dd⟩
/-- d[y] = v -/
theorem d_setItem {H' : Hp} {Q : Unit → Shared → Prop} (hu : A.units + 1 < cLine) (I : Inv X pins σ H s) (g : DPut H a y v H') (ry : RelV y u) (rv : RelV v r) (h : ∀ s', Inv X pins σ H' s' → Q () s') :
    wpAny (model X.prog X.w) A (setItem (.ref a) u r) Q E s := by
  rcases g with ⟨kvs, k, e, ey, l, eH⟩ | ⟨kvs, k, b, e, ey, eb, l, eH⟩
  · subst ey eH
    obtain ⟨z, hd, vs, rel, dd⟩ := dk_of I.hok e
    have hz : vs.length ≤ sizeLine := by rw [← rel.length]; exact z
    have hl : (putK kvs k v).length ≤ sizeLine := by have := length_putK kvs k v; omega
    refine wpAny_setItem_pairs (hsz := hz) (kV_is ry) dd fun h' dd' hs => h _ ?_
    have he : ∃ q, h'.get? a = some q := let ⟨q, _, _, hq, _⟩ := dd'; ⟨q, hq⟩
    exact d_write I (by rw [e]; exact True.intro) hs he (dk_new hl hd (rel.put k rv) dd')
  · subst ey eH
    cases (show u = Value.ref b from ry)
    obtain ⟨z, hd, xs, rel, dd⟩ := dt_of I.hok e
    have hz : xs.length ≤ sizeLine := by rw [← Paired.length rel]; exact z
    have hl : (putK kvs k v).length ≤ sizeLine := by have := length_putK kvs k v; omega
    refine wpAny_setItem_heap (hsz := hz) (tupleKind_room_in1 hu) (key_of I.hok eb) dd fun h' dd' hs => h _ ?_
    obtain ⟨q, es, ep, hq, h2, h3, h4, _, h5⟩ := dd'
    refine d_write I (by rw [e]; exact True.intro) hs ⟨q, hq⟩ ⟨hl, hd, _, (rel.put k eb rv).keeps fun c ys ec => ?_, q, es, ep, hq, h2, h3, h4, h5⟩
    rw [upd_ne (ne_of ec e (fun z => nomatch z))]
    exact ec
end

section
variable {X : Cx} {pins : List (Addr × Obj)} {σ : St} {H : Hp} {s : Shared} {a : Addr} {kvs : List (Key × V)} {k : Key} {u : Value} {A : Around} {E : Value → Shared → Prop}
end


/-- the element of a subscription, not a slice -/
def NoSl (i : Expr) : Prop := ∀ ov iv, subscripted i false ov iv = operate [ov, iv] (getItem ov iv)
theorem subD_of {prog : Program} {w : World} {A : Around} {E : Value → Shared → Prop} {s : Shared} {env : Env} {value slice : Expr} {pos : Pos} {T id : String} {Q : Value → Shared → Prop}
    (hl : typeLookup (.type T) "__getitem__" = pure (some (.builtin id))) (hs : NoSl slice)
    (h : wpAny (model prog w) A (eval value env) (fun o s₁ => wpAny (model prog w) A (eval slice env) (fun i s₂ => s₂.TypeIs o T ∧ wpAny (model prog w) A (getItem o i) Q E s₂) E s₁) E s) :
    wpAny (model prog w) A (eval (.Subscript value slice pos) env) Q E s := by
  refine Subscript_ (wpAny_mono h (fun o s₁ h₁ => wpAny_mono h₁ (fun i s₂ h₂ => ?_) fun _ _ x => x) fun _ _ x => x)
  obtain ⟨hT, h₂⟩ := h₂
  unfold subscriptTail
  refine wpAny_bind ?_
  rw [getitemInPython_of_ne hT.not_modules]
  refine wpAny_bind (wpAny_specialOf hT hl ?_)
  have fin : wpAny (model prog w) A (subscripted slice false o i) (fun r s₃ => wpAny (model prog w) A (letTemporaryGo value o r >>= fun _ => pure r) Q E s₃) E s₂ := by
    rw [hs o i]
    exact wpAny_operating (wpAny_mono h₂ (fun r s₃ h₃ => wpAny_bind (wpAny_letTemporaryGo (wpAny_pure h₃))) fun _ _ x => x)
  first
    | exact wpAny_pure (wpAny_bind fin)
    | exact wpAny_bind (wpAny_pure (wpAny_bind fin))
    | exact wpAny_bind fin
theorem dict_typeIs {X : Cx} {pins : List (Addr × Obj)} {σ : St} {H : Hp} {s : Shared} {a : Addr} {y : V} {o : Option V} (I : Inv X pins σ H s) (g : DGet H a y o) : s.TypeIs (.ref a) "dict" := by
  rcases g with ⟨kvs, k, e, _, _⟩ | ⟨kvs, k, b, e, _, _, _⟩
  · obtain ⟨_, _, vs, _, dd⟩ := dk_rd I.hok e
    exact dd.typeIs
  · obtain ⟨_, _, xs, _, dd⟩ := dt_rd I.hok e
    exact dd.typeIs
/-- d[y] -/
def tDGet (td ty : TE) : TE := fun σ H Q => td σ H fun x H1 => ty σ H1 fun y H2 => ∃ a v, x = .ref a ∧ DGet H2 a y (some v) ∧ Q v H2
def tDNotIn (ty td : TE) : TE := fun σ H Q => ty σ H fun y H1 => td σ H1 fun x H2 => ∃ a o, x = .ref a ∧ DGet H2 a y o ∧ Q (.bl (!o.isSome)) H2
/-- d[y] = v -/
def sDPut (td ty tv : TE) : TS := fun D σ H => tv σ H fun v H1 => td σ H1 fun x H2 => ty σ H2 fun y H3 => ∃ a H4, x = .ref a ∧ DPut H3 a y v H4 ∧ D.nx σ H4
section
variable {X : Cx} {o i e value : Expr} {pos pos' tpos : Pos} {td ty tv : TE}
theorem pe_dget (hu : X.A.units + 1 < cLine) (ho : PE X o td) (hi : PE X i ty) (hs : NoSl i) : PE X (.Subscript o i pos) (tDGet td ty) := by
  intro pins s σ H Q I h
  refine subD_of PySem.F.slot_dict_getitem.lookup hs (thn (ho pins s σ H _ I h) fun u s1 ⟨x, H1, I1, rx, q1⟩ => thn (hi pins s1 σ H1 _ I1 q1) fun iv s2 ⟨y, H2, I2, ry, a, v, ex, g, q2⟩ => ?_)
  subst ex
  obtain rfl : u = Value.ref a := rx
  exact ⟨dict_typeIs I2 g, d_getItem hu I2 g ry fun w' s3 I3 rw' => ⟨v, H2, I3, rw', q2⟩⟩
theorem pc_dnotin (hu : X.A.units + 1 < cLine) (hi : PE X i ty) (ho : PE X o td) : PC X .NotIn i o (tDNotIn ty td) := by
  intro pins s σ H Q I h
  refine thn (hi pins s σ H _ I h) fun iv s1 ⟨y, H1, I1, ry, q1⟩ => thn (ho pins s1 σ H1 _ I1 q1) fun u s2 ⟨x, H2, I2, rx, a, ov, ex, g, q2⟩ => ?_
  subst ex
  obtain rfl : u = Value.ref a := rx
  exact d_notIn hu I2 g ry fun s3 I3 => ⟨.bl (!ov.isSome), H2, I3, rfl, q2⟩
theorem ps_dput (hu : X.A.units + 1 < cLine) (ho : PE X o td) (hi : PE X i ty) (hv : PE X value tv) (hs : swapsWith value (some (.Subscript o i pos')) pos.line X.env = pure false) :
    PS X (.Assign [.Subscript o i pos'] value pos) (sDPut td ty tv) := by
  intro pins s σ H D I h
  refine wpAny_Assign_Subscript (thn (hv pins s σ H _ I h) fun r s1 ⟨v, H1, I1, rv, q1⟩ => thn (ho pins s1 σ H1 _ I1 q1) fun u s2 ⟨x, H2, I2, rx, q2⟩ => thn (hi pins s2 σ H2 _ I2 q2) fun iv s3 ⟨y, H3, I3, ry, a, H4, ex, g, q3⟩ => ?_) hs
  subst ex
  obtain rfl : u = Value.ref a := rx
  exact d_setItem hu I3 g ry rv fun s4 I4 => ⟨σ, H4, I4, q3⟩
end


theorem dt_empty {P : Program} {w : World} {H : Hp} (h : Heap) (hb : sysModules < h.objs.size) : ObjOk P w H (h.push { cls := .type "dict", data := .dict #[] }) h.objs.size (.dT []) :=
  ⟨Nat.zero_le _, beq_eq_false_iff_ne.mpr (Ne.symm (Nat.ne_of_lt hb)), [], .nil, _, #[], 0, Heap.get?_push_size _ rfl, ⟨rfl, rfl, rfl⟩, rfl, rfl, List.nodup_nil⟩
def tDNewT : TE := fun _ H Q => ∀ p, H p = none → Q (.ref p) (upd H p (.dT []))
section
variable {X : Cx} {pos : Pos}
theorem pe_dnewT : PE X (.Dict [] [] pos) tDNewT := fun pins s σ H Q I h =>
  wpAny_Dict_empty ⟨.ref s.heap.objs.size, _, I.laid (a := s.heap.objs.size) (o := .dT []) (t' := s.toks) (fun _ _ q => Heap.get?_push_of_some _ q) (Nat.le_refl _) (dt_empty s.heap I.big), rfl, h _ (I.hok.fresh (Nat.le_refl _))⟩
end

structure M2 (X : Cx) (o : Expr) (m : Str) (apos : Pos) (e f : Expr) (cpos : Pos) : Prop where
  base : attributeBase o m X.env (eval o X.env) = eval o X.env
  few : ((backTo cpos (starEach [e, f] X.env)).all (fun x => !x.1) && (backToKw cpos (keywordEach [] X.env)).all (fun x => x.1.isSome)
    && decide (([e, f] : List Expr).length + ([] : List Keyword).length + (if ([] : List Keyword).isEmpty then 0 else 1) < 30)) = true
  line : (apos.endLine == cpos.line) = true
  trees : backTo cpos (starEach [e, f] X.env) = [(false, eval e X.env), (false, eval f X.env)]
/-- a is a dict, whatever its keys -/
def IsD (H : Hp) (a : Addr) : Prop := (∃ kvs, Rd H a (.dK kvs)) ∨ ∃ kvs, Rd H a (.dT kvs)
theorem isD_at {X : Cx} {pins : List (Addr × Obj)} {σ : St} {H : Hp} {s : Shared} {a : Addr} (I : Inv X pins σ H s) (d : IsD H a) :
    s.TypeIs (.ref a) "dict" ∧ (∀ b, Value.ref a = .ref b → ∃ ob, s.heap.get? b = some ob ∧ ob.dict = none) ∧ (a == sysModules) = false := by
  rcases d with ⟨kvs, e⟩ | ⟨kvs, e⟩
  · obtain ⟨_, hd, vs, _, dd⟩ := dk_rd I.hok e
    refine ⟨dd.typeIs, fun b q => ?_, hd⟩
    cases q
    obtain ⟨ob, _, _, h1, h2, _⟩ := dd
    exact ⟨ob, h1, h2.2.1⟩
  · obtain ⟨_, hd, xs, _, dd⟩ := dt_rd I.hok e
    refine ⟨dd.typeIs, fun b q => ?_, hd⟩
    cases q
    obtain ⟨ob, _, _, h1, h2, _⟩ := dd
    exact ⟨ob, h1, h2.2.1⟩
section
variable {X : Cx} {pins : List (Addr × Obj)} {σ : St} {H : Hp} {s : Shared} {a : Addr} {y d : V} {u r : Value} {o : Option V} {A : Around} {E : Value → Shared → Prop}
/-- d.get(y, x) -/
theorem d_get2 {Q : Value → Shared → Prop} (hu : A.units + 1 < cLine) (I : Inv X pins σ H s) (g : DGet H a y o) (ry : RelV y u) (rd : RelV d r) (h : ∀ w' s', Inv X pins σ H s' → RelV (o.getD d) w' → Q w' s') :
    wpAny (model X.prog X.w) A (call (.builtin "dict.get") [.ref a, u, r]) Q E s := by
  rcases g with ⟨kvs, k, e, ey, l⟩ | ⟨kvs, k, b, e, ey, eb, l⟩
  · subst ey
    obtain ⟨z, hd, vs, rel, dd⟩ := dk_rd I.hok e
    refine call_meetsIn PySem.F.slot_dict_get dd.typeIs PySem.F.entry_dict_get (PySem.F.args_dict_get_3 _ _ _) (meets_dict_get_default (mixKind X.prog X.w) a (kV_is ry) hd r) ⟨_, dd.mapOf, h _ _ (I.tok _) ?_⟩
    rw [l]
    exact (rel.val k).getD rd
  · subst ey
    cases (show u = Value.ref b from ry)
    obtain ⟨z, hd, xs, rel, dd⟩ := dt_rd I.hok e
    refine call_meetsIn PySem.F.slot_dict_get dd.typeIs PySem.F.entry_dict_get (PySem.F.args_dict_get_3 _ _ _) (meetsH_dict_get_default (tupleKind (mixKind X.prog X.w)) a b hd r) ⟨tupleKind_room_in1 hu, k, xs, key_of I.hok eb, dd, h _ _ (I.tok _) ?_⟩
    rw [l]
    exact (rel.val k).getD rd
end

def tDGet2 (td ty tx : TE) : TE := fun σ H Q => td σ H fun x H1 => ∃ a, x = .ref a ∧ IsD H1 a ∧ ty σ H1 fun y H2 => tx σ H2 fun z H3 => ∃ o, DGet H3 a y o ∧ Q (o.getD z) H3
section
variable {X : Cx} {o e f : Expr} {apos cpos : Pos} {td ty tx : TE}
theorem pe_dget2 (hu : X.A.units + 1 < cLine) (ho : PE X o td) (he : PE X e ty) (hf : PE X f tx) (m : M2 X o "get" apos e f cpos) : PE X (.Call (.Attribute o "get" apos) [e, f] [] cpos) (tDGet2 td ty tx) := by
  intro pins s σ H Q I h
  refine wpAny_Call_method m.base m.few m.line PySem.F.plainAttrs_dict PySem.F.slot_dict_get PySem.F.type_dict_get (thn (ho pins s σ H _ I h) fun u s1 ⟨x, H1, I1, rx, a, ex, d, q1⟩ => ?_)
  subst ex
  obtain rfl : u = Value.ref a := rx
  obtain ⟨t1, t2, _⟩ := isD_at I1 d
  refine ⟨t1, t2, ?_⟩
  rw [m.trees]
  refine Calls.callWith_builtin rfl (Calls.evalArgs_plain (Calls.spliced_cons (thn (he pins s1 σ H1 _ I1 q1) fun iv s2 ⟨y, H2, I2, ry, q2⟩ =>
    Calls.spliced_cons (thn (hf pins s2 σ H2 _ I2 q2) fun fv s3 ⟨z, H3, I3, rz, ov, g, q3⟩ => Calls.spliced_nil ?_))))
  exact d_get2 hu I3 g ry rz fun w' s4 I4 rw' => ⟨_, H3, I4, rw', q3⟩
end

section
variable {X : Cx} {pins : List (Addr × Obj)} {σ : St} {H : Hp} {s : Shared} {a : Addr} {kvs : List (Key × V)} {A : Around} {E : Value → Shared → Prop}
end


section
variable {X : Cx} {pins : List (Addr × Obj)} {σ : St} {H : Hp} {s : Shared} {a : Addr} {y : V} {u : Value} {A : Around} {E : Value → Shared → Prop}
end
end L2
namespace HT
open PySem PyProof.Rows

section
open PySem.SeqAt
open PySem.AutoSeq1 (wpAny_loadPart')
open PySem.MeetsSeq PySem.MeetsSeq2 PySem.MeetsSeq3

end

section
variable {prog : Program} {w : World} {A : Around} {E : Value → Shared → Prop} {s : Shared}

end
end HT

namespace L2
open PySem PySem.Spec PyProof.Rows

abbrev TO := St → Hp → (Option Int → Hp → Prop) → Prop
/-- a slice's part (left out, or an int) -/
def PO (X : Cx) (e : Option Expr) (t : TO) : Prop :=
  ∀ (pins : List (Addr × Obj)) (s : Shared) (σ : St) (H : Hp) (Q : Option Int → Hp → Prop), Inv X pins σ H s → t σ H Q →
    wpAny (model X.prog X.w) X.A (evalPart e X.env) (fun u s' => ∃ o H', Inv X pins σ H' s' ∧ IsPart u o ∧ Q o H') X.xe s
def tNoPart : TO := fun _ H Q => Q none H
def tPart (t : TE) : TO := fun σ H Q => t σ H fun x H1 => ∃ i, x = .int i ∧ Q (some i) H1
section
variable {X : Cx} {e : Expr} {te : TE} {lo hi : Option Expr} {tl th : TO} {pos p2 : Pos}

theorem po_none : PO X none tNoPart := by
  intro pins s σ H Q I h
  rw [evalPart_none]
  exact wpAny_pure ⟨none, H, I, .none, h⟩
theorem po_some (h : PE X e te) : PO X (some e) (tPart te) := by
  intro pins s σ H Q I hw
  rw [evalPart_some]
  refine thn (h pins s σ H _ I hw) fun u s1 ⟨x, H1, I1, r1, q1⟩ => ?_
  obtain ⟨i, rfl, q⟩ := q1
  obtain ⟨t, rfl⟩ := r1
  exact ⟨some i, H1, I1, .int i t, q⟩
/-- what a slice of a value is, by values: the slice object stands at sl -/
def SlR (X : Cx) (r : V → Option Int → Option Int → Hp → VK → Prop) : Prop :=
  ∀ (pins : List (Addr × Obj)) (s : Shared) (σ : St) (H : Hp) (x : V) (v vl vu : Value) (lo hi : Option Int) (sl : Addr) (Q : VK), Inv X pins σ H s → RelV x v → s.heap.IsSliceOf sl vl vu .none → IsPart vl lo → IsPart vu hi → r x lo hi H Q →
    ∃ T id, typeLookup (.type T) "__getitem__" = pure (some (.builtin id)) ∧ s.TypeIs v T ∧ wpAny (model X.prog X.w) X.A (getItem v (.ref sl)) (EP X pins σ Q) X.xe s
theorem SlR.or {r r' : V → Option Int → Option Int → Hp → VK → Prop} (h : SlR X r) (h' : SlR X r') : SlR X (fun x lo hi H Q => r x lo hi H Q ∨ r' x lo hi H Q) := by
  intro pins s σ H x v vl vu lo hi sl Q I rx hs pl pu q
  rcases q with q | q
  · exact h pins s σ H x v vl vu lo hi sl Q I rx hs pl pu q
  · exact h' pins s σ H x v vl vu lo hi sl Q I rx hs pl pu q
def tSl (r : V → Option Int → Option Int → Hp → VK → Prop) (te : TE) (tl th : TO) : TE := fun σ H Q => te σ H fun x H1 => tl σ H1 fun l H2 => th σ H2 fun u H3 => r x l u H3 Q
/-- a[lo:hi], any a -/
theorem pe_slice {r : V → Option Int → Option Int → Hp → VK → Prop} (hr : SlR X r) (he : PE X e te) (hl : PO X lo tl) (hu : PO X hi th) : PE X (.Subscript e (.Slice lo hi none p2) pos) (tSl r te tl th) := by
  intro pins s σ H Q I h
  refine Subscript_ (thn (he pins s σ H _ I h) fun v s1 ⟨x, H1, I1, r1, q1⟩ => ?_)
  refine wpAny_Slice (thn (hl pins s1 σ H1 _ I1 q1) fun vl s2 ⟨l, H2, I2, pl, q2⟩ => thn (hu pins s2 σ H2 _ I2 q2) fun vu s3 ⟨u, H3, I3, pu, q3⟩ => ?_)
  rw [evalPart_none]
  refine wpAny_pure ?_
  have I4 : Inv X pins σ H3 { s3 with heap := s3.heap.push { cls := .type "slice", data := .fields #[vl, vu, .none] } } := I3.kept (t' := s3.toks) fun b ob q => Heap.get?_push_of_some _ q
  obtain ⟨T, id, hT, ht, hg⟩ := hr pins { s3 with heap := s3.heap.push { cls := .type "slice", data := .fields #[vl, vu, .none] } } σ H3 x v vl vu l u s3.heap.objs.size Q I4 r1 (Heap.IsSliceOf.new ..) pl pu q3
  show wpAny (model X.prog X.w) X.A (subscriptTail e (.Slice lo hi none p2) v (.ref s3.heap.objs.size)) (EP X pins σ Q) X.xe { s3 with heap := s3.heap.push { cls := .type "slice", data := .fields #[vl, vu, .none] } }
  exact tail_any (ops := [.ref s3.heap.objs.size, v]) ht hT hg (by with_unfolding_all rfl)
end
end L2

namespace L2
open PySem PySem.Spec PyProof.Rows

/-- the place that an index of any sign means -/
def ixN (n : Nat) (i : Int) : Option Nat := if 0 ≤ i then (if i < n then some i.toNat else none) else if -(n : Int) ≤ i then some (i + n).toNat else none
def atI {α : Type} (xs : List α) (i : Int) : Option α := (ixN xs.length i).bind fun j => xs[j]?
theorem ixN_seq {n : Nat} {i : Int} {j : Nat} (h : ixN n i = some j) : seqIndex? i n = some j ∧ j < n ∧ -(n : Int) ≤ i ∧ i < n := by
  unfold ixN at h
  by_cases h0 : 0 ≤ i
  · rw [if_pos h0] at h
    by_cases h1 : i < n
    · rw [if_pos h1] at h
      have e : i.toNat = j := Option.some.inj h
      exact ⟨by rw [seqIndex_of h0 h1, e], by omega, by omega, h1⟩
    · rw [if_neg h1] at h; cases h
  · rw [if_neg h0] at h
    by_cases h1 : -(n : Int) ≤ i
    · rw [if_pos h1] at h
      have e : (i + n).toNat = j := Option.some.inj h
      exact ⟨by rw [seqIndex_neg (by omega) h1, e], by omega, h1, by omega⟩
    · rw [if_neg h1] at h; cases h
theorem atI_get {α : Type} {xs : List α} {i : Int} {v : α} (h : atI xs i = some v) : ∃ j, seqIndex? i xs.length = some j ∧ xs[j]? = some v ∧ j < xs.length ∧ -(xs.length : Int) ≤ i ∧ i < xs.length := by
  unfold atI at h
  cases e : ixN xs.length i with
  | none => rw [e] at h; cases h
  | some j =>
    rw [e] at h
    obtain ⟨h1, h2, h3, h4⟩ := ixN_seq e
    exact ⟨j, h1, h, h2, h3, h4⟩
theorem atI_nat {α : Type} {xs : List α} {j : Nat} {v : α} (h : xs[j]? = some v) : atI xs (j : Int) = some v := by
  have hj : j < xs.length := (List.getElem?_eq_some_iff.mp h).1
  have e : ixN xs.length (j : Int) = some j := by
    unfold ixN
    rw [if_pos (by omega), if_pos (by omega)]; simp
  unfold atI; rw [e]; exact h
theorem atI_last {α : Type} (xs : List α) (v : α) : atI (xs ++ [v]) (-1) = some v := by
  have hl : (xs ++ [v]).length = xs.length + 1 := by simp
  have e : ixN (xs ++ [v]).length (-1) = some xs.length := by
    unfold ixN
    rw [hl, if_neg (by decide), if_pos (by omega)]
    congr 1
    omega
  unfold atI
  rw [e]
  show (xs ++ [v])[xs.length]? = some v
  simp
/-- what stands as an index of a plain subscript -/
def PlainIx (b : Expr) : Prop := ∀ o i, subscripted b false o i = operate [o, i] (getItem o i)
/-- a subscript by values -/
def IxR (X : Cx) (r : R2) : Prop :=
  ∀ (value slice : Expr) (pins : List (Addr × Obj)) (s : Shared) (σ : St) (H : Hp) (x y : V) (v u : Value) (Q : VK), Inv X pins σ H s → RelV x v → RelV y u → r x y H Q →
    subscripted slice false v u = operate [v, u] (getItem v u) → wpAny (model X.prog X.w) X.A (subscriptTail value slice v u) (EP X pins σ Q) X.xe s
/-- a call of a builtin's method by values: the receiver, the arguments -/
def MtR (X : Cx) (id : String) (r : V → List V → Hp → VK → Prop) : Prop :=
  ∀ (pins : List (Addr × Obj)) (s : Shared) (σ : St) (H : Hp) (x : V) (xs : List V) (v : Value) (us : List Value) (Q : VK), Inv X pins σ H s → RelV x v → Vals xs us → r x xs H Q →
    wpAny (model X.prog X.w) X.A (call (.builtin id) (v :: us)) (EP X pins σ Q) X.xe s
section
variable {X : Cx} {a b : Expr} {ta tb : TE} {pos : Pos}
theorem IxR.or {r r' : R2} (h : IxR X r) (h' : IxR X r') : IxR X (fun x y H Q => r x y H Q ∨ r' x y H Q) := by
  intro value slice pins s σ H x y v u Q I rx ry q hs
  rcases q with q | q
  · exact h value slice pins s σ H x y v u Q I rx ry q hs
  · exact h' value slice pins s σ H x y v u Q I rx ry q hs
theorem MtR.or {id : String} {r r' : V → List V → Hp → VK → Prop} (h : MtR X id r) (h' : MtR X id r') : MtR X id (fun x xs H Q => r x xs H Q ∨ r' x xs H Q) := by
  intro pins s σ H x xs v us Q I rx rs q
  rcases q with q | q
  · exact h pins s σ H x xs v us Q I rx rs q
  · exact h' pins s σ H x xs v us Q I rx rs q
/-- a[b] -/
theorem pe_ix {r : R2} (hr : IxR X r) (ha : PE X a ta) (hb : PE X b tb) (hs : PlainIx b) : PE X (.Subscript a b pos) (tOp r ta tb) := by
  intro pins s σ H Q I h
  exact Subscript_ (binT ha hb I h fun v u s2 x y H2 I2 rx ry q => hr a b pins s2 σ H2 x y v u Q I2 rx ry q (hs _ _))
def rIxL (K : PySem.W.Frag) : R2 := fun x y H Q => ∃ p xs i v, x = .ref p ∧ y = .int i ∧ SqL K H p xs ∧ atI xs i = some v ∧ Q v H
def rIxT (K : PySem.W.Frag) : R2 := fun x y H Q => ∃ p xs i v, x = .ref p ∧ y = .int i ∧ SqT K H p xs ∧ atI xs i = some v ∧ Q v H
def rIxS : R2 := fun x y H Q => ∃ z i c, x = .str z ∧ y = .int i ∧ z.length ≤ sizeLine ∧ atI z.cps.toList i = some c ∧ Q (.str ⟨#[c]⟩) H
theorem ix_list : IxR X (rIxL X.K) := by
  intro value slice pins s σ H x y v u Q I rx ry h hs
  obtain ⟨p, xs, i, z, rfl, rfl, hq, he, q⟩ := h
  cases rx
  obtain ⟨t, rfl⟩ := ry
  obtain ⟨its, r, pl, hz⟩ := I.list hq
  obtain ⟨j, h1, h2, h3, h4, h5⟩ := atI_get he
  obtain ⟨w, ew, rw'⟩ := r.get h2
  have hl := r.length
  have hn := line63
  have fin : EP X pins σ Q w s := ⟨z, H, I, rw', q⟩
  by_cases h0 : 0 ≤ i
  · have hj : i.toNat = j := by
      rw [seqIndex_of h0 h5] at h1
      exact Option.some.inj h1
    exact item_listR pl.isList h0 (by omega) (by rw [hj]; simpa using ew) fin hs
  · have hj : (i + (its.toArray.size : Int)).toNat = j := by
      rw [seqIndex_neg (by omega) h4] at h1
      rw [List.size_toArray, ← hl]
      exact Option.some.inj h1
    exact subscriptTail_builtinR (x := w) pl.isList.typeIs slot_list_getitem.lookup
      (wpAny_getItem_list_neg (Q := fun r s' => r = w ∧ EP X pins σ Q r s') pl.isList (by omega) (by rw [List.size_toArray] <;> omega) (by omega) (by rw [hj]; simpa using ew) ⟨rfl, fin⟩) hs
theorem ix_tup : IxR X (rIxT X.K) := by
  intro value slice pins s σ H x y v u Q I rx ry h hs
  obtain ⟨p, xs, i, z, rfl, rfl, hq, he, q⟩ := h
  cases rx
  obtain ⟨t, rfl⟩ := ry
  obtain ⟨its, r, pl, hz⟩ := I.tuple hq
  obtain ⟨j, h1, h2, h3, h4, h5⟩ := atI_get he
  obtain ⟨w, ew, rw'⟩ := r.get h2
  have hl := r.length
  have hn := line63
  have fin : EP X pins σ Q w s := ⟨z, H, I, rw', q⟩
  exact subscriptTail_builtinR (x := w) pl.typeIs slot_tuple_getitem.lookup
    (getItem_tuple (j := j) (Q := fun r s' => r = w ∧ EP X pins σ Q r s') pl (by omega) (by omega) (by rw [List.size_toArray, ← hl]; exact h1) (by simpa using ew) ⟨rfl, fin⟩) hs
theorem ix_str : IxR X rIxS := by
  intro value slice pins s σ H x y v u Q I rx ry h hs
  obtain ⟨z, i, c, rfl, rfl, hz, he, q⟩ := h
  obtain ⟨t, rfl⟩ := rx
  obtain ⟨t', rfl⟩ := ry
  obtain ⟨j, h1, h2, h3, h4, h5⟩ := atI_get he
  have hl : z.cps.toList.length = z.length := by simp [Str.length]
  rw [hl] at h1 h4 h5
  have hn := line63
  exact tail_any (typeIs_str s z t) slot_str_getitem.lookup (getItem_str (c := c) (by
    have e1 : decide (i < -(2 ^ 63 : Int)) = false := decide_eq_false (by omega)
    have e2 : decide (i ≥ 2 ^ 63) = false := decide_eq_false (by omega)
    rw [e1, e2, Bool.or_false]) (by rw [h1]; simpa using h2) ⟨.str ⟨#[c]⟩, H, I.tok _, ⟨_, rfl⟩, q⟩) hs
theorem Inv.lst {pins : List (Addr × Obj)} {σ : St} {H : Hp} {s : Shared} {p : Addr} {xs : List V} (I : Inv X pins σ H s) (h : H p = some (.lst xs)) :
    ∃ (its : List Value) (n : Nat), Vals xs its ∧ s.heap.get? p = some { cls := .type "list", data := .seq its.toArray n } ∧ xs.length ≤ sizeLine := by
  obtain ⟨z, its, n, r, e⟩ := I.hok p _ h
  exact ⟨its, n, r, e, z⟩
theorem call_len_seq : CallR X (.builtin "len") (fun xs H Q => ∃ p ys, xs = [.ref p] ∧ (SqL X.K H p ys ∨ SqT X.K H p ys) ∧ Q (.int ys.length) H) := by
  intro pins s σ H xs us Q I r h
  obtain ⟨p, ys, rfl, hq, q⟩ := h
  obtain ⟨u, rfl, rx⟩ := vals1 r
  cases rx
  have hn := line63
  rcases hq with hq | hq
  · obtain ⟨its, r', pl, hz⟩ := I.list hq
    have hlen := r'.length
    exact Calls.call_len_list pl.isList (by simp only [List.size_toArray] <;> omega) ⟨.int ys.length, H, I.tok _, ⟨s.toks + 1, by rw [List.size_toArray, hlen]⟩, q⟩
  · obtain ⟨its, r', pl, hz⟩ := I.tuple hq
    have hlen := r'.length
    exact len_tuple pl (by simp only [List.size_toArray] <;> omega) ⟨.int ys.length, H, I.tok _, ⟨s.toks + 1, by rw [List.size_toArray, hlen]⟩, q⟩
theorem call_len_str : CallR X (.builtin "len") (fun xs H Q => ∃ z, xs = [.str z] ∧ z.length ≤ sizeLine ∧ Q (.int z.length) H) := by
  intro pins s σ H xs us Q I r h
  obtain ⟨z, rfl, hz, q⟩ := h
  obtain ⟨u, rfl, t, rfl⟩ := vals1 r
  have hn := line63
  exact len_str (by omega) ⟨.int z.length, H, I.tok _, ⟨_, rfl⟩, q⟩
theorem CallR.or {f : Value} {r r' : List V → Hp → VK → Prop} (h : CallR X f r) (h' : CallR X f r') : CallR X f (fun xs H Q => r xs H Q ∨ r' xs H Q) := by
  intro pins s σ H xs us Q I rs q
  rcases q with q | q
  · exact h pins s σ H xs us Q I rs q
  · exact h' pins s σ H xs us Q I rs q
/-- the value is of that builtin type -/
def tyV (K : PySem.W.Frag) (T : String) (x : V) (H : Hp) : Prop := match x with
  | .str _ => T = "str"
  | .int _ => T = "int"
  | .ref p => (T = "list" ∧ ∃ xs, SqL K H p xs) ∨ (T = "tuple" ∧ ∃ o, K.lookup p = some o ∧ o.cls = .type "tuple" ∧ o.dict = none) ∨
      (T = "dict" ∧ ((∃ kvs, H p = some (.dK kvs)) ∨ ∃ kvs, H p = some (.dT kvs))) ∨ (T = "set" ∧ ∃ S n, H p = some (.set S n))
  | _ => False
theorem tyV_is {pins : List (Addr × Obj)} {σ : St} {H : Hp} {s : Shared} {T : String} {x : V} {v : Value} (I : Inv X pins σ H s) (r : RelV x v) (ty : tyV X.K T x H) :
    s.TypeIs v T ∧ ∀ a, v = .ref a → ∃ ob, s.heap.get? a = some ob ∧ ob.dict = none := by
  cases x with
  | str z =>
    obtain ⟨t, rfl⟩ := r
    cases (show T = "str" from ty)
    exact ⟨typeIs_str s z t, fun _ e => nomatch e⟩
  | int i =>
    obtain ⟨t, rfl⟩ := r
    cases (show T = "int" from ty)
    exact ⟨typeIs_int s i t, fun _ e => nomatch e⟩
  | ref p =>
    cases r
    rcases ty with ⟨rfl, xs, hq⟩ | ⟨rfl, o, hk, hc, hd⟩ | ⟨rfl, hk⟩ | ⟨rfl, S, n, hk⟩
    · obtain ⟨its, _, pl, _⟩ := I.list hq
      refine ⟨pl.isList.typeIs, fun a e => ?_⟩
      cases e
      obtain ⟨o, n, e, c, hd, _⟩ := pl
      exact ⟨o, e, hd⟩
    · refine ⟨⟨o, I.kIn p o hk, hc⟩, fun a e => ?_⟩
      cases e
      exact ⟨o, I.kIn _ o hk, hd⟩
    · have z : ∃ o, s.heap.get? p = some o ∧ o.ExactDict := by
        rcases hk with ⟨kvs, hk⟩ | ⟨kvs, hk⟩
        · obtain ⟨_, _, _, _, o, _, _, e, ex, _⟩ := I.hok p _ hk
          exact ⟨o, e, ex⟩
        · obtain ⟨_, _, _, _, o, _, _, e, ex, _⟩ := I.hok p _ hk
          exact ⟨o, e, ex⟩
      obtain ⟨o, e, ex⟩ := z
      refine ⟨⟨o, e, ex.1⟩, fun a e2 => ?_⟩
      cases e2
      exact ⟨o, e, ex.2.1⟩
    · obtain ⟨o, _, _, _, e, ex, _⟩ := I.hok p _ hk
      refine ⟨⟨o, e, ex.1⟩, fun a e2 => ?_⟩
      cases e2
      exact ⟨o, e, ex.2.1⟩
  | _ => exact False.elim ty
def tBM0 (K : PySem.W.Frag) (T : String) (r : V → List V → Hp → VK → Prop) (to : TE) : TE := fun σ H Q => to σ H fun x H1 => tyV K T x H1 ∧ r x [] H1 Q
def tBM (K : PySem.W.Frag) (T : String) (r : V → List V → Hp → VK → Prop) (to : TE) (t : TA) : TE := fun σ H Q => to σ H fun x H1 => tyV K T x H1 ∧ t σ H1 fun xs H2 => r x xs H2 Q
variable {o e : Expr} {es : List Expr} {to : TE} {t : TA} {name : Str} {apos cpos : Pos} {T id : String} {r : V → List V → Hp → VK → Prop}
theorem pe_bm0 (pa : PlainAttrs T) (slot : Slot T name id) (hty : typeOf (.builtin id) = pure (.type "method_descriptor")) (hm : MtR X id r) (ho : PE X o to)
    (hbase : attributeBase o name X.env (eval o X.env) = eval o X.env := by rfl) (hline : (apos.endLine == cpos.line) = true := by rfl) : PE X (.Call (.Attribute o name apos) [] [] cpos) (tBM0 X.K T r to) := by
  intro pins s σ H Q I h
  refine wpAny_Call_method0_late hbase hline (thn (ho pins s σ H _ I h) fun v s1 ⟨x, H1, I1, r1, ty, q1⟩ => ?_)
  obtain ⟨h1, h2⟩ := tyV_is I1 r1 ty
  exact ⟨T, id, pa, slot, hty, h1, h2, Calls.callWith_builtin rfl (PySem.evalArgs_none (hm pins s1 σ H1 x [] v [] Q I1 r1 .nil q1))⟩
theorem pe_bm (pa : PlainAttrs T) (slot : Slot T name id) (hty : typeOf (.builtin id) = pure (.type "method_descriptor")) (hm : MtR X id r) (ho : PE X o to) (ha : PA X (e :: es) t)
    (hbase : attributeBase o name X.env (eval o X.env) = eval o X.env := by rfl)
    (hfew : ((backTo cpos (starEach (e :: es) X.env)).all (fun x => !x.1) && (backToKw cpos (keywordEach [] X.env)).all (fun x => x.1.isSome)
      && decide ((e :: es).length + ([] : List Keyword).length + (if ([] : List Keyword).isEmpty then 0 else 1) < 30)) = true := by rfl)
    (hline : (apos.endLine == cpos.line) = true := by rfl) (hs : starEach (e :: es) X.env = (false, eval e X.env) :: starEach es X.env := by rfl) (hplain : (backTo cpos (starEach es X.env)).any (·.1) = false := by rfl) :
    PE X (.Call (.Attribute o name apos) (e :: es) [] cpos) (tBM X.K T r to t) := by
  intro pins s σ H Q I h
  refine wpAny_Call_method_late hbase hfew hline rfl (thn (ho pins s σ H _ I h) fun v s1 ⟨x, H1, I1, r1, ty, q1⟩ => ?_)
  obtain ⟨h1, h2⟩ := tyV_is I1 r1 ty
  refine ⟨T, id, pa, slot, hty, h1, h2, ?_⟩
  have hA := ha cpos pins s1 σ H1 _ I1 q1
  rw [hs] at hA ⊢
  refine Calls.callWith_builtin (by show (false || (backTo cpos (starEach es X.env)).any (·.1)) = false; rw [hplain] <;> rfl) (Calls.evalArgs_plain ?_)
  exact thn hA fun us s2 ⟨vs, H2, I2, r2, q2⟩ => hm pins s2 σ H2 x vs v us Q I2 r1 r2 q2
end
end L2

namespace L2
open PySem PySem.Spec PyProof.Rows

def MtM (X : Cx) (id : String) (r : V → List V → Hp → VK → Prop) : Prop :=
  ∀ (pins : List (Addr × Obj)) (s : Shared) (σ : St) (H : Hp) (x : V) (xs : List V) (v : Value) (us : List Value) (Q : VK), Inv X pins σ H s → RelV x v → Vals xs us → r x xs H Q →
    wpAny (model X.prog X.w) X.A (call (.builtin id) (v :: us)) (EP X pins σ Q) X.xe s
theorem Vals.one : ∀ {x : V} {us : List Value}, Vals [x] us → ∃ u, us = [u] ∧ RelV x u
  | _, _, .cons r .nil => ⟨_, rfl, r⟩
theorem Vals.two : ∀ {x y : V} {us : List Value}, Vals [x, y] us → ∃ u v, us = [u, v] ∧ RelV x u ∧ RelV y v
  | _, _, _, .cons r (.cons q .nil) => ⟨_, _, rfl, r, q⟩
theorem Vals.zero : ∀ {us : List Value}, Vals [] us → us = []
  | _, .nil => rfl
theorem Vals.dropLast {xs : List V} {us : List Value} (h : Vals xs us) : Vals xs.dropLast us.dropLast := by
  induction h with
  | nil => exact .nil
  | cons r t ih =>
    cases t with
    | nil => exact .nil
    | cons q t' => exact .cons r ih
theorem Vals.eraseIdx : ∀ {xs : List V} {us : List Value} (i : Nat), Vals xs us → Vals (xs.eraseIdx i) (us.eraseIdx i)
  | _, _, _, .nil => .nil
  | _, _, 0, .cons _ t => t
  | _, _, i + 1, .cons r t => .cons r (Vals.eraseIdx i t)
theorem Vals.reverse {xs : List V} {us : List Value} (h : Vals xs us) : Vals xs.reverse us.reverse := by
  induction h with
  | nil => exact .nil
  | cons r t ih => rw [List.reverse_cons, List.reverse_cons]; exact Vals.append ih (.cons r .nil)
theorem erase_last {α : Type} (l : List α) : l.eraseIdx (l.length - 1) = l.dropLast := by
  induction l with
  | nil => rfl
  | cons a r ih =>
    cases r with
    | nil => rfl
    | cons b r =>
      have e : (a :: b :: r).length - 1 = ((b :: r).length - 1) + 1 := by
        have h1 : (a :: b :: r).length = r.length + 2 := rfl
        have h2 : (b :: r).length = r.length + 1 := rfl
        omega
      rw [e, List.eraseIdx_cons_succ, ih]
      all_goals rfl
section
variable {X : Cx} {pins : List (Addr × Obj)} {σ : St} {H : Hp} {s : Shared} {l b : Addr} {xs ys zs : List V}

theorem Inv.lset {its its' : List Value} {n : Nat} {f : Array Value → Array Value} {t' : Nat} (I : Inv X pins σ H s) (hH : H l = some (.lst xs))
    (e : s.heap.get? l = some { cls := .type "list", data := .seq its.toArray n }) (hf : f its.toArray = its'.toArray) (hv : Vals ys its') (hz : ys.length ≤ sizeLine) :
    Inv X pins σ (upd H l (.lst ys)) { s with heap := s.heap.update l (Obj.mapSeq f), toks := t' } := by
  have q := PySem.IsL.update e f
  rw [hf] at q
  refine I.write (x := l) (e := l) (by rw [hH]; exact trivial) (.inl rfl) (fun b' u hb hu => (Heap.get?_update_other s.heap (Obj.mapSeq f) (Ne.symm hb)).trans hu) ⟨_, q⟩ ?_
  exact ⟨hz, its', _, hv, q⟩
theorem Inv.lnew {its : List Value} {t' : Nat} (I : Inv X pins σ H s) (hv : Vals ys its) (hz : ys.length ≤ sizeLine) :
    Inv X pins σ (upd H s.heap.objs.size (.lst ys)) { s with heap := s.heap.push { cls := .type "list", data := .seq its.toArray }, toks := t' } :=
  I.laid (fun _ _ q => Heap.get?_push_of_some _ q) (Nat.le_refl _) ⟨hz, its, 0, hv, Heap.get?_push_size _ rfl⟩
theorem Inv.fresh (I : Inv X pins σ H s) : H s.heap.objs.size = none := I.hok.fresh (Nat.le_refl _)
theorem Inv.lstM (I : Inv X pins σ H s) (hH : H l = some (.lst xs)) : xs.length ≤ sizeLine ∧ ∃ (its : List Value) (n : Nat), Vals xs its ∧ xs.length = its.length ∧ s.heap.get? l = some { cls := .type "list", data := .seq its.toArray n } := by
  obtain ⟨z, its, n, r, e⟩ := I.hok l _ hH
  exact ⟨z, its, n, r, r.length, e⟩
end

section
variable {X : Cx}

def rPop : V → List V → Hp → VK → Prop := fun x vs H Q => ∃ l xs y, x = .ref l ∧ vs = [] ∧ H l = some (.lst xs) ∧ xs[xs.length - 1]? = some y ∧ Q y (upd H l (.lst xs.dropLast))
theorem mt_pop : MtM X "list.pop" rPop := by
  intro pins s σ H x vs v us Q I rx rv h
  obtain ⟨l, xs, y, rfl, rfl, hH, hy, q⟩ := h
  cases rx
  have hus := rv.zero
  subst hus
  obtain ⟨z, its, n, r, hl, e⟩ := I.lstM hH
  obtain ⟨u, hu, ru⟩ := r.get hy
  have hy' : its.toArray[its.toArray.size - 1]? = some u := by
    show its.toArray[its.length - 1]? = some u
    rw [← Array.getElem?_toList, ← hl]
    exact hu
  refine call_meets F.slot_list_pop ⟨_, e, rfl⟩ F.entry_list_pop (F.args_list_pop_1 _) (MeetsSeq.list_pop_last l its.toArray n u hy' (by rw [List.size_toArray]; omega)) ⟨e, ?_⟩
  refine ⟨y, _, I.lset (its' := its.dropLast) hH e ?_ r.dropLast ?_, ru, q⟩
  · show its.toArray.eraseIdxIfInBounds (its.toArray.size - 1) = its.dropLast.toArray
    rw [List.size_toArray, List.eraseIdxIfInBounds_toArray, erase_last]
  · rw [List.length_dropLast]
    omega
def rCat : R2 := fun x y H Q => ∃ l b xs zs, x = .ref l ∧ y = .ref b ∧ H l = some (.lst xs) ∧ H b = some (.lst zs) ∧ xs.length + zs.length ≤ sizeLine ∧ ∀ p, H p = none → Q (.ref p) (upd H p (.lst (xs ++ zs)))
theorem op_cat : OpR X (binaryOp .Add) rCat := by
  intro pins s σ H x y v u Q I rx ry h
  obtain ⟨l, b, xs, zs, rfl, rfl, hH, hB, hz, q⟩ := h
  cases rx
  cases ry
  obtain ⟨z, its, n, r, hl, e⟩ := I.lstM hH
  obtain ⟨z2, its2, n2, r2, hl2, e2⟩ := I.lstM hB
  refine PySem.P.add_list e e2 ?_ (by rw [List.size_toArray, List.size_toArray]; omega)
  have ea : its.toArray ++ its2.toArray = (its ++ its2).toArray := by simp
  rw [ea]
  exact ⟨.ref _, _, I.lnew (t' := s.toks) (r.append r2) (by rw [List.length_append]; omega), rfl, q _ I.fresh⟩
end

section
variable {prog : Program} {w : World} {A : Around} {E : Value → Shared → Prop} {s : Shared}
end

section
variable {X : Cx}
end
end L2
namespace Att
open PySem PySem.W PySem.Calls PyProof.Rows

theorem ints_of_wellAll {P : Params} {h : Heap} : ∀ (ns : List Int) (vs : List Value), WellAll P h vs (ns.map WData.int) → IntsAre vs ns := by
  intro ns
  induction ns with
  | nil =>
    intro vs w
    rw [List.map_nil] at w
    cases w
    exact .nil
  | cons n ns ih =>
    intro vs w
    rw [List.map_cons] at w
    cases w with
    | cons a b =>
      cases a
      exact .cons _ _ (ih _ b)
theorem script_of {l : OpenLaw} {n : Nat} (hn : l.most = some n) {P : Params} {h : Heap} {args : List WData} {vals : List Value}
    (hpre : l.row.toRowW.claim.pre args = true) (hwl : WellAll P h vals args) :
    ∃ a vs ns, vals = [Value.ref a] ∧ args = [WData.list (ns.map WData.int)] ∧ h.get? a = some { cls := .type "list", data := .seq vs.toArray } ∧ IntsAre vs ns ∧ ns.length ≤ n := by
  have hsh : WShape.hasAll [] args [.list .int] = true := (pre_splitW hpre).1
  have hc : l.pre.holds [] { args := args } = true := (pre_splitW hpre).2
  obtain ⟨d, r, rfl, h1, h2⟩ := hasAllW_cons hsh
  obtain rfl := hasAllW_nil h2
  obtain ⟨xs, rfl, h3⟩ := hasW_list h1
  obtain ⟨ns, rfl⟩ := items_int h3
  have hlen : ns.length ≤ n := by
    unfold OpenLaw.pre at hc
    have h4 : (WTm.not (.lt (.lit (.int (n : Int))) (.len (.arg 0)))).holds [] { args := [.list (ns.map .int)] } = true := by
      have h4 := (holds_andW hc).1
      rw [hn] at h4
      exact h4
    have h5 := condW_of h4 (w_not (w_lt w_lit (w_len_list (w_arg rfl))))
    rw [List.length_map] at h5
    refine Nat.le_of_not_lt fun q => ?_
    have q' : (n : Int) < ((ns.length : Nat) : Int) := by omega
    first
      | (rw [decide_eq_true q'] at h5; exact absurd h5 (by decide))
      | (simp at h5; omega)
  cases hwl with
  | cons w1 w2 =>
    cases w2
    cases w1 with
    | list ho hall => exact ⟨_, _, ns, rfl, rfl, ho, ints_of_wellAll ns _ hall, hlen⟩
theorem post_true (l : OpenLaw) (args : List WData) : l.row.toRowW.claim.post args (.bool true) args = true :=
  postW_of (r := l.row.toRowW) (X := (true == true))
    (show WShape.has [] (.bool true) .bool = true by first | rfl | decide | simp [WShape.has, WShape.arms, WShape.armsAll])
    (show (WTm.eq .res (.lit (.bool true))).value [] { args := args, res := some (.bool true), after := args } = some (.bool (true == true)) from w_eq_bool (w_res rfl) w_lit) rfl
/-- the same from a codeAny of the CALL (for a layer whose function contracts speak of calls) -/
theorem attach_call {l : OpenLaw} {n : Nat} {q : Program} {loose : List Str} {XP : (Str → Option Value) → Heap → Prop} {YP : World → Heap → Prop} {d : DefRec}
    (hn : l.most = some n) (hdf : d.params.defaults = [])
    (call : ∀ (w : World) (s₀ s₁ : Shared) (mg mb : Str → Option Value) (fa : Addr) (o : Obj) (pm cd doc : Value) (a : Addr) (vs : List Value) (ns : List Int),
      Ground q loose [] XP w s₀ mg mb s₁.heap → YP w s₁.heap →
      s₁.heap.get? fa = some o → o.data = .func (docDef d.name d.params d.body d.scope pm cd doc) → s₁.heap.CodeRec cd d.name → mg d.name = some (.ref fa) →
      s₁.heap.get? a = some { cls := .type "list", data := .seq vs.toArray } → IntsAre vs ns → ns.length ≤ n → s₁.gens = #[] →
      codeAny (model l.prog w) callerA (.call (.ref fa) ⟨[.ref a], []⟩) (fun r s' => r = .ok (.ret (.bool true)) ∧ OldK s₁.heap s'.heap ∧ s'.os = s₁.os ∧ AllBare s'.gens) s₁) :
    WalkO q loose XP YP l.row.toRowW d [] (fun f vs => PySem.call f vs) := by
  intro w s₀ s₁ mg mb G Y fa o pm cd doc dV kV ho hd hcd hD hmg hg args vals as hpre hlay hrd hwl hlo
  obtain rfl : dV = .none := Dflts.none hD hdf
  obtain rfl : kV = .none := Dflts.noKw hD
  obtain ⟨a, vs, ns, rfl, rfl, hobj, hints, hlen⟩ := script_of hn hpre hwl
  refine enter_call (codeAny_mono (call w s₀ s₁ mg mb fa o pm cd doc a vs ns G Y ho (fd_plain hd) hcd hmg hobj hints hlen hg) fun r s' hq => ?_)
  obtain ⟨rfl, h2, h3, h4⟩ := hq
  exact ⟨.inl ⟨.bool true, .bool true, [], rfl, fun _ => rfl, .bool true, post_true l _, fun _ => ⟨List.Pairwise.nil, fun _ hm => (nomatch hm)⟩⟩, h2, h3, h4⟩
section
variable {prog : Program} {w : World} {A : Around} {E : Value → Shared → Prop} {s : Shared} {K : Frag}

end
end Att

namespace L2
open PySem PySem.Spec PyProof.Rows

theorem vals_ints : ∀ {vs : List Value} {ns : List Int}, IntsAre vs ns → Vals (ns.map V.int) vs
  | _, _, .nil => .nil
  | _, _, .cons n t h => .cons ⟨t, rfl⟩ (vals_ints h)
/-- nothing is tracked but the script, known to the object (or it is an object of the module) -/
def Only (H : Hp) : Prop := ∀ b, H b = none ∨ ∃ o xs, H b = some (.frz o (.lst xs))
/-- THE HEAD: the law's promise, at the heap behind the top. F, the promise of the law's def, may use that base is part of the heap (so K.In base, base.Ns mainGlobals mg stand in Mod) -/
theorem law_call {P : Program} {w : World} {K : PySem.W.Frag} {mg mb : Str → Option Value} {CX : CXT} {k : Nat} {fa a : Addr} {fd : FuncData} {x : Str} {sp : Sp} {s₁ : Shared} {vs : List Value} {ns : List Int}
    (KX : K.In s₁.heap) (hns : s₁.heap.Ns mainGlobals mg) (hb : s₁.heap.Ns builtinsNs mb) (hbb : ∀ x : Str, x ≠ "__name__" → mb x = bootBuiltins x) (hlim : s₁.heap.NoLimit) (hg : s₁.gens = #[])
    (ha : s₁.heap.get? a = some { cls := .type "list", data := .seq vs.toArray }) (hi : IntsAre vs ns) (hl : ns.length ≤ sizeLine) (hr : Room k callerA)
    (F : ∀ base : Heap, K.In base → base.Ns mainGlobals mg → FnOk P w K mg base CX k fa fd [x] sp) (hbind : ∀ (s : Shared) (u : Value), BindsTo s fd ⟨[u], []⟩ [(x, u)])
    (hsp : ∀ H : Hp, Only H → SqL K H a (ns.map V.int) → sp [.ref a] H (fun v _ => v = .bl true) fun _ _ _ => False)
    (hCX : ∀ H e s', CX [] H s₁ (fun _ _ _ => False) e s' → False) :
    codeAny (model P w) callerA (.call (.ref fa) ⟨[.ref a], []⟩) (fun r s' => r = .ok (.ret (.bool true)) ∧ OldK s₁.heap s'.heap ∧ s'.os = s₁.os ∧ AllBare s'.gens) s₁ := by
  have rv := vals_ints hi
  have lenV := hi.length
  -- from an abstract heap in which nothing but the script may be tracked
  have core : ∀ H : Hp, Only H → SqL K H a (ns.map V.int) → HOk P w H s₁.heap → (∀ b, H b ≠ none → b = a) → (H a ≠ none → K.lookup a = none) →
      codeAny (model P w) callerA (.call (.ref fa) ⟨[.ref a], []⟩) (fun r s' => r = .ok (.ret (.bool true)) ∧ OldK s₁.heap s'.heap ∧ s'.os = s₁.os ∧ AllBare s'.gens) s₁ := by
    intro H hO hS hok hA hK
    have base_of : ∀ {b : Addr} {o : Obj}, s₁.heap.get? b = some o → H b = none → (hidT s₁.heap H).get? b = some o := fun e n => hidT_get e n
    have noA : ∀ {b : Addr} {o : Obj} {es : Array DictEntry} {ep : Nat}, s₁.heap.get? b = some o → o.data = .dict es ep → H b = none := fun {b o es ep} e d => by
      cases q : H b with
      | none => rfl
      | some u =>
        have e' : b = a := hA b (by rw [q]; simp)
        subst e'
        rw [ha] at e; cases e
        have d' : Data.seq vs.toArray _ = Data.dict es ep := d
        cases d'
    have nsK : ∀ {b : Addr} {m : Str → Option Value}, s₁.heap.Ns b m → (hidT s₁.heap H).Ns b m := fun {b m} ⟨o, es, ep, e, d, r⟩ => ⟨o, es, ep, base_of e (noA e d), d, r⟩
    have hKb : K.In (hidT s₁.heap H) := fun b o e => base_of (KX b o e) (by
      cases q : H b with
      | none => rfl
      | some u =>
        have e' : b = a := hA b (by rw [q]; simp)
        subst e'
        rw [hK (by rw [q]; simp)] at e; cases e)
    have hM : Mod K mg (hidT s₁.heap H) := ⟨hKb, nsK hns, ⟨mb, nsK hb, hbb⟩, let ⟨mc, h1, h2⟩ := hlim; ⟨mc, nsK h1, h2⟩⟩
    have e0 : Env0 P w K mg (hidT s₁.heap H) callerA [] s₁ H := ⟨rfl, hM, fun b o e => of_hidT e, Nat.le_of_eq (hidT_size _ _), trivial, fun b hb => absurd (show b ∈ ([] : List Addr) from hb) (by simp), hok, .of_eq hg⟩
    refine codeAny_mono ((F _ hKb (nsK hns)).run callerA [] s₁ H ⟨[.ref a], []⟩ [.ref a] [.ref a] _ _ hr e0 (hbind s₁ (.ref a)) (.cons rfl .nil) (hsp H hO hS)) fun r s' h => ?_
    cases r with
    | error e => exact (hCX H e s' h).elim
    | ok fl =>
      cases fl with
      | next => exact False.elim h
      | brk => exact False.elim h
      | cont => exact False.elim h
      | ret u =>
        obtain ⟨v, H', os, bare, un, hok', r', q⟩ := h
        have q' : v = .bl true := q
        subst q'
        obtain rfl : u = Value.bool true := r'
        refine ⟨rfl, OldK.of_keep fun b o e => ?_, os, bare⟩
        cases q : H b with
        | none => exact un.keep b o e q (by intro z; exact absurd (show b ∈ ([] : List Addr) from z) (by simp)) (by simp)
        | some u =>
          rcases hO b with z | ⟨ob, xs, z⟩
          · rw [q] at z; cases z
          · have z2 := un.frzs b ob _ z
            obtain ⟨e1, _⟩ := hok b _ z
            obtain ⟨e2, _⟩ := hok' b _ z2
            rw [e] at e1; cases e1
            exact e2
  cases hk : K.lookup a with
  | some o =>
    -- the script is one of the module's own objects
    have e := KX a o hk
    rw [ha] at e
    cases e
    refine core (fun _ => none) (fun _ => .inl rfl) (.inr ⟨_, vs.toArray, _, hk, rfl, rfl, rfl, by rw [List.size_toArray, lenV]; exact hl, by simpa using rv⟩) (fun b u z => by have z' : (none : Option HO) = some u := z; cases z') (fun b z => absurd rfl z) fun z => absurd rfl z
  | none =>
    refine core (fun b => if b = a then some (.frz { cls := .type "list", data := .seq vs.toArray } (.lst (ns.map V.int))) else none) (fun b => ?_) (.inl (.inr ⟨{ cls := .type "list", data := .seq vs.toArray }, if_pos rfl⟩)) (fun b u z => ?_) (fun b z => ?_) fun _ => hk
    · by_cases hb : b = a
      · exact .inr ⟨_, _, if_pos hb⟩
      · exact .inl (if_neg hb)
    · by_cases hb : b = a
      · have z' := (if_pos hb).symm.trans z
        cases z'
        subst hb
        exact ⟨ha, by rw [List.length_map]; exact hl, vs, _, rv, ha⟩
      · have z' := (if_neg hb).symm.trans z
        cases z'
    · by_cases hb : b = a
      · exact hb
      · exact absurd (if_neg hb) z
end L2

namespace L2
open PySem PySem.Spec PyProof.Rows

/-- the goal that k_head leaves (case hc), from the law's promise. F gives the function object fd (K's own) once, then the promise over every base -/
theorem walk_of {l : PySem.W.OpenLaw} {n k : Nat} {q : Program} {loose : List Str} {XP : (Str → Option Value) → Heap → Prop} {YP : World → Heap → Prop} {d : DefRec} {K : Params → PySem.W.Frag} {CX : World → CXT} {sp : World → Sp} {x : Str}
    (hn : l.most = some n) (hn2 : n ≤ sizeLine) (hdf : d.params.defaults = []) (hr : Room k callerA)
    (hY : ∀ (w : World) (h : Heap), YP w h → (K w.params).In h)
    (F : ∀ (w : World) (mg : Str → Option Value) (fa : Addr) (h : Heap), (K w.params).In h → h.Ns mainGlobals mg → mg d.name = some (.ref fa) →
      ∃ fd : FuncData, (∀ (s : Shared) (u : Value), BindsTo s fd ⟨[u], []⟩ [(x, u)]) ∧
        ∀ base : Heap, (K w.params).In base → base.Ns mainGlobals mg → FnOk l.prog w (K w.params) mg base (CX w) k fa fd [x] (sp w))
    (hsp : ∀ (w : World) (H : Hp) (a : Addr) (ns : List Int), ns.length ≤ n → Only H → SqL (K w.params) H a (ns.map V.int) → sp w [.ref a] H (fun v _ => v = .bl true) fun _ _ _ => False)
    (hCX : ∀ (w : World) (H : Hp) (s : Shared) (e : Value) (s' : Shared), CX w [] H s (fun _ _ _ => False) e s' → False) :
    PySem.W.WalkO q loose XP YP l.row.toRowW d [] (fun f vs => PySem.call f vs) := by
  refine Att.attach_call hn hdf fun w s₀ s₁ mg mb fa o pm cd doc a vs ns G Y ho hd hcd hmg hobj hints hlen hg => ?_
  have KX := hY w _ Y
  obtain ⟨fd, hb, hF⟩ := F w mg fa _ KX G.T.g hmg
  exact law_call KX G.T.g G.T.b G.T.builtins G.T.nolimit hg hobj hints (Nat.le_trans hlen hn2) hr hF hb (fun H hO hS => hsp w H a ns hlen hO hS) fun H e s' => hCX w H s₁ e s'
end L2


namespace L2
open PySem PySem.Spec PyProof.Rows

/-- the j-th statement of a class's body -/
def inClass (s : Stmt) (j : Nat) : Stmt := match s with
  | .ClassDef _ _ _ body _ _ _ _ _ _ _ => body.getD j (.Pass ⟨0, 0, 0, 0⟩)
  | _ => .Pass ⟨0, 0, 0, 0⟩
def defArgs (s : Stmt) : Arguments := match s with
  | .FunctionDef _ a _ _ _ _ _ _ _ _ => a
  | _ => { posonlyargs := [], args := [], vararg := none, kwonlyargs := [], kw_defaults := [], kwarg := none, defaults := [] }
def defBody (s : Stmt) : List Stmt := match s with
  | .FunctionDef _ _ b _ _ _ _ _ _ _ => b
  | _ => []
def defScope (s : Stmt) : Scope := match s with
  | .FunctionDef _ _ _ _ _ _ sc _ _ _ => sc
  | _ => { kind := .function, names := [], isGenerator := false, isCoroutine := false }
abbrev CX0 : CXT := fun _ _ _ _ _ _ => False
abbrev E0 : XK := fun _ _ _ => False
structure Fun (K : PySem.W.Frag) (x qual : Str) (st : Stmt) (f : Addr) (fd : FuncData) : Prop where
  ex : ∃ (oc : Value) (od : Option Addr) (kV doc pm : Value) (an : Option Addr) (cdv ct : Value) (osl : Array (Option Value)),
    fd = PySem.W.fnOf x qual (defArgs st) (defBody st) (defScope st) .none kV doc pm an cdv ct ∧ K.lookup f = some ⟨oc, od, .func fd, osl⟩ ∧ PySem.W.codeIn K cdv qual = true
  kp : PySem.W.keepIn K (.ref f) = true
section
variable {P : Program} {w : World} {K : PySem.W.Frag} {mg : Str → Option Value} {base : Heap}
/-- THE RULE for a def: its body as a term of rules, and the reading of that term -/
theorem Fun.ok {x qual : Str} {st : Stmt} {f : Addr} {fd : FuncData} {N ps : List Str} {k : Nat} {sp : Sp} (F : Fun K x qual st f fd) (S : FnScope N ps (defScope st)) (len : ∀ vs H Q E, sp vs H Q E → vs.length = ps.length)
    (hbody : ∀ (cdv : Value) (A : Around) (outer : List Env) (s : Shared) (H : Hp) (vs : List V) (Q : VK) (E : XK), Room k (A.deeper (envOfC qual (defScope st) s.heap.objs.size f cdv)) → sp vs H Q E →
      ∃ t, PSs (cxOf CX0 P w K mg base N qual (defScope st) f cdv A outer s H E).nox (defBody st) t ∧ t { nx := fun _ H' => Q .non H', rt := Q } (start N vs) H) : FnOk P w K mg base CX0 (k + 1) f fd ps sp := by
  obtain ⟨oc, od, kV, doc, pm, an, cdv, ct, osl, rfl, lk, hcd⟩ := F.ex
  refine fn_of lk hcd S len fun A outer s H vs Q E hr hsp => ?_
  obtain ⟨t, h, q⟩ := hbody cdv A outer s H vs Q E hr hsp
  exact ⟨t, h.nox, q⟩
/-- how its arguments bind (no defaults): h is «fun _ _ _ _ _ _ us hl => match us, hl with | [_, _], _ => rfl», one _ a parameter -/
theorem Fun.binds {x qual : Str} {st : Stmt} {f : Addr} {fd : FuncData} {ps : List Str} (F : Fun K x qual st f fd)
    (h : ∀ (kV doc pm : Value) (an : Option Addr) (cdv ct : Value) (us : List Value), us.length = ps.length → bindArgs (PySem.W.fnOf x qual (defArgs st) (defBody st) (defScope st) .none kV doc pm an cdv ct) ⟨us, []⟩ = pure (ps.zip us)) : Binds K fd ps [] := by
  obtain ⟨oc, od, kV, doc, pm, an, cdv, ct, osl, rfl, lk, hcd⟩ := F.ex
  exact .all (h kV doc pm an cdv ct)
theorem fun_mk {x qual : Str} {st : Stmt} {f : Addr} {oc : Value} {od an : Option Addr} {osl : Array (Option Value)} {kV doc pm cdv ct : Value} (l : K.lookup f = some ⟨oc, od, .func (PySem.W.fnOf x qual (defArgs st) (defBody st) (defScope st) .none kV doc pm an cdv ct), osl⟩)
    (c : PySem.W.codeIn K cdv qual = true) (k : PySem.W.keepIn K (.ref f) = true) : Fun K x qual st f (PySem.W.fnOf x qual (defArgs st) (defBody st) (defScope st) .none kV doc pm an cdv ct) := ⟨⟨oc, od, kV, doc, pm, an, cdv, ct, osl, rfl, l, c⟩, k⟩
end
theorem hu_of {A : Around} {k : Nat} (hr : Room k A) : A.units + 1 < cLine := Nat.lt_of_le_of_lt (Nat.add_le_add_left (by decide : 1 ≤ 64) _) hr.units
theorem small1000 {n : Nat} (h : n ≤ 1000) : n < sizeLine := Nat.lt_of_le_of_lt h (by decide)
section
variable {X : Cx}
theorem pv (i : Nat) {x : Str} {pos : Pos} (hN : X.N[i]? = some x := by rfl) (hv : Vis X.env.scope x := by first | exact Or.inl rfl | exact Or.inr (Or.inl rfl) | exact Or.inr (Or.inr rfl)) (hd : (x == ("__debug__" : Str)) = false := by decide)
    (hcd : (x == ("__classdict__" : Str)) = false := by decide) : PE X (.Name x pos) (tVar i) := pe_var hN hv hd hcd
end

theorem iteF {A B : Prop} (h : B) : if false = true then A else B := by
  rw [if_neg Bool.false_ne_true]
  exact h
theorem iteT {A B : Prop} (h : A) : if true = true then A else B := by
  rw [if_pos rfl]
  exact h
theorem ite2 {c A B : Prop} [Decidable c] (h1 : c → A) (h2 : ¬ c → B) : if c then A else B := by
  by_cases h : c
  · rw [if_pos h]
    exact h1 h
  · rw [if_neg h]
    exact h2 h
/-- all that was tracked is as it was -/
def Same (H H' : Hp) : Prop := ∀ b o, H b = some o → H' b = some o
theorem Same.refl (H : Hp) : Same H H := fun _ _ h => h
theorem Same.trans {H H1 H2 : Hp} (a : Same H H1) (b : Same H1 H2) : Same H H2 := fun c o h => b c o (a c o h)
theorem Same.free {H H' : Hp} (e : Same H H') {l : Addr} (h : H' l = Option.none) : H l = Option.none := by
  cases q : H l with
  | none => rfl
  | some o =>
    rw [e l o q] at h
    cases h
theorem Same.seq {K : PySem.W.Frag} {H H' : Hp} {a : Addr} {xs : List V} (e : Same H H') (h : SqL K H a xs) : SqL K H' a xs := by
  rcases h with (h | ⟨o, h⟩) | h
  · exact .inl (.inl (e _ _ h))
  · exact .inl (.inr ⟨o, e _ _ h⟩)
  · exact .inr h
section
variable {κ : Type} [DecidableEq κ]
end
end L2

set_option maxHeartbeats 4000000

namespace L2
open PySem PySem.Spec PyProof.Rows
section
variable {prog : Program} {w : World} {A : Around} {R : Result → Shared → Prop} {s : Shared}
end

theorem lookup_pairs_mem {f : Str → Addr} {x : Str} {c : Addr} : ∀ {l : List Str}, (l.map fun n => (n, f n)).lookup x = some c → x ∈ l ∧ c = f x
  | [], e => by simp at e
  | n :: r, e => by
    rw [List.map_cons, List.lookup_cons] at e
    cases q : x == n with
    | true =>
      rw [q] at e
      have z := beq_iff_eq.mp q
      subst z
      cases e
      exact ⟨List.mem_cons.mpr (.inl rfl), rfl⟩
    | false =>
      rw [q] at e
      obtain ⟨h1, h2⟩ := lookup_pairs_mem e
      exact ⟨List.mem_cons.mpr (.inr h1), h2⟩
def cellsC (X : Cx) (fr : List Str) : List (Str × Addr) := fr.map fun n => (n, (X.env.cells.lookup n).getD 0)
/-- what the text must say of a comprehension: its variable x, the names fr that it takes from around, their slots js there -/
structure CompOk (X : Cx) (sc : Scope) (x : Str) (fr : List Str) (js : List Nat) : Prop where
  kind : sc.kind = .function
  loc : sc.names.lookup x = some .local
  free : fr.map (fun n => sc.names.lookup n) = fr.map fun _ => some .free
  out : fr.map (fun n => X.env.kindOf n) = fr.map fun _ => some .cell
  only : ∀ p ∈ sc.names, p.2 = .cell ∨ p.2 = .free → p.1 ∈ fr
  nocell : ∀ y ∈ sc.names, y.2 ≠ .cell
  names : ∀ y ∈ sc.names, y.2 = .local → sc.names.lookup y.1 = some .local
  clos : closureFor sc X.env = pure (cellsC X fr)
  at_ : js.map (fun j => X.N[j]?) = fr.map some
  nd : (x :: fr).Nodup
section
variable {X : Cx} {sc : Scope} {x : Str} {fr : List Str} {js : List Nat} {pins : List (Addr × Obj)} {σ : St} {H : Hp} {s : Shared} {fp : List Addr} {h' : Heap} {tk : Nat}
theorem CompOk.outs (O : CompOk X sc x fr js) : ∀ n ∈ fr, X.env.kindOf n = some .cell := List.map_inj_left.mp O.out
theorem CompOk.cell (O : CompOk X sc x fr js) (I : Inv X pins σ H s) {y : Str} {c : Addr} (e : (cellsC X fr).lookup y = some c) : y ∈ fr ∧ X.env.cells.lookup y = some c := by
  obtain ⟨h1, h2⟩ := lookup_pairs_mem e
  obtain ⟨c', e'⟩ := I.ok.has y (.inl (O.outs y h1))
  rw [e'] at h2
  exact ⟨h1, by rw [e', h2]; rfl⟩
end

/-- what is known behind the block -/
structure CompEnd (X : Cx) (pins : List (Addr × Obj)) (σ : St) (Q : V → Hp → Prop) (acc : Value) (C : Addr) (s' : Shared) : Prop where
  ex : ∃ D H', acc = .ref D ∧ Inv X pins σ H' s' ∧ H' C = none ∧ Q (.ref D) H'
  ns : ∃ m, s'.heap.Ns C m
  ab : X.s₀.heap.objs.size ≤ C
  nl : C ≠ X.env.locals
  nc : ∀ y c, X.env.cells.lookup y = some c → c ≠ C
  np : ∀ p ∈ X.pn ++ pins, p.1 ≠ C
section
variable {X : Cx} {sc : Scope} {x : Str} {fr : List Str} {js : List Nat} {pins : List (Addr × Obj)} {σ : St} {elt iter : Expr} {ifs : List Expr} {px pos : Pos} {tif : TT} {te : TE} {wi : TI}
theorem CompEnd.go {Q : V → Hp → Prop} {acc : Value} {C : Addr} {s' : Shared} (Z : CompEnd X pins σ Q acc C s') {h' : Heap} (hs : Heap.SameBut C s'.heap h') : EP X pins σ Q acc { s' with heap := h' } := by
  obtain ⟨D, H', rfl, I', hC, q⟩ := Z.ex
  exact ⟨.ref D, H', I'.turned (t' := s'.toks) (fun b o hb e => hs.extBut b o hb e) hC Z.nl (.inr Z.ab) Z.nc Z.np, rfl, q⟩
end
end L2

set_option maxHeartbeats 4000000

namespace L2
open PySem PySem.Spec PyProof.Rows
theorem ObjOk.get {P : Program} {w : World} {H : Hp} {h : Heap} {a : Addr} {o : HO} (x : ObjOk P w H h a o) : ∃ ob, h.get? a = some ob := by
  cases o with
  | lst xs => obtain ⟨_, _, _, _, e⟩ := x; exact ⟨_, e⟩
  | tup xs => obtain ⟨_, _, _, p⟩ := x; obtain ⟨ob, e, _⟩ := p; exact ⟨ob, e⟩
  | dK kvs => obtain ⟨_, _, _, _, o, _, _, e, _⟩ := x; exact ⟨o, e⟩
  | dT kvs => obtain ⟨_, _, _, _, o, _, _, e, _⟩ := x; exact ⟨o, e⟩
  | set S n => obtain ⟨o, _, _, _, e, _⟩ := x; exact ⟨o, e⟩
  | ins C dx fs => obtain ⟨_, _, _, e, _⟩ := x; exact ⟨_, e⟩
  | own y => exact x
  | xd fs => obtain ⟨_, ⟨o, _, _, e, _⟩, _⟩ := x; exact ⟨o, e⟩
  | rng lo hi => obtain ⟨_, _, _, e⟩ := x; exact ⟨_, e⟩
  | frz ob u => exact ⟨ob, x.1⟩
  | tbl ps => exact ⟨_, x⟩
  | met f y => exact ⟨_, x⟩
  | ext φ => exact x.2.1
/-- an exception of the class at C flies at ea behind a call -/
structure Flies (P : Program) (w : World) (outer : List Env) (H : Hp) (s : Shared) (ea C : Addr) (H' : Hp) (s' : Shared) : Prop where
  os : s'.os = s.os
  bare : AllBare s'.gens
  un : Un (frs outer) [] H H' s.heap s'.heap
  hok : HOk P w H' s'.heap
  new : s.heap.get? ea = none
  nt : H' ea = none
  fly : ∃ (B : Heap) (a0 : Value), Heap.FlyingW B outer ea (.ref C) a0 s'.heap ∧ (∀ b o, s.heap.get? b = some o → b ∉ frs outer → ∃ o', B.get? b = some o') ∧ ∀ b u, H' b = some u → ∃ o', B.get? b = some o'
def CX1 (P : Program) (w : World) : CXT := fun outer H s E e s' => ∃ ea C H', e = Value.ref ea ∧ Flies P w outer H s ea C H' s' ∧ E (.ref C) none H'
theorem passN {P : Program} {w : World} {X : Cx} : Passes (CX1 P w) X E0 := fun _ _ _ _ _ _ _ ⟨_, _, _, _, _, h⟩ => h.elim
section
variable {P : Program} {w : World} {outer : List Env} {H H' : Hp} {s s' : Shared} {ea C : Addr} {h' : Heap}
/-- the tracked objects are as they were, wherever the exception's own record was turned -/
theorem fly_hok {B : Heap} (hok : HOk P w H' s'.heap) (st : B.StaysIn s'.heap) (kt : ∀ b u, H' b = some u → ∃ o', B.get? b = some o') (st' : B.StaysIn h') : HOk P w H' h' := fun a u e =>
  (hok a u e).stay (fun b v hb q => by
    have tr : ∃ z, H' b = some z := by
      rcases hb with z | z
      · rw [z]; exact ⟨u, e⟩
      · exact ⟨_, z⟩
    obtain ⟨z, hz⟩ := tr
    obtain ⟨o', eo⟩ := kt b z hz
    have q' := st b o' eo
    rw [q] at q'
    cases q'
    exact st' b _ eo) (fun _ q => q) fun _ _ q => q
/-- from the call's start to where the exception's record was turned -/
theorem fly_un {B : Heap} (un : Un (frs outer) [] H H' s.heap s'.heap) (fr : ∀ b ∈ frs outer, H b = none ∧ ∃ o, s.heap.get? b = some o ∧ ∀ vs, o.data ≠ .fields vs)
    (st : B.StaysIn s'.heap) (kb : ∀ b o, s.heap.get? b = some o → b ∉ frs outer → ∃ o', B.get? b = some o') (st' : B.StaysIn h') (ups : s'.heap.UpToSlots h') : Un (frs outer) [] H H' s.heap h' := by
  have slot : ∀ b o, s.heap.get? b = some o → H b = none → b ∈ frs outer → b ∉ ([] : List Addr) → ∃ sl, h'.get? b = some { o with slots := sl } := fun b o e n hb hx => by
    obtain ⟨sl, e1⟩ := un.slot b o e n hb hx
    obtain ⟨_, ob, eb, hd⟩ := fr b hb
    rw [e] at eb
    cases eb
    obtain ⟨sl2, e2⟩ := ups b _ e1 hd
    exact ⟨sl2, e2⟩
  refine ⟨fun b o e n hb hx => ?_, slot, un.free, fun b o e hx => ?_, un.tups, un.frzs, un.tbls⟩
  · obtain ⟨o', eo⟩ := kb b o e hb
    have e1 := un.keep b o e n hb hx
    have e2 := st b o' eo
    rw [e1] at e2
    cases e2
    exact st' b _ eo
  · by_cases hb : b ∈ frs outer
    · obtain ⟨n, _⟩ := fr b hb
      obtain ⟨sl, e1⟩ := slot b o e n hb hx
      exact ⟨_, e1⟩
    · obtain ⟨o', eo⟩ := kb b o e hb
      exact ⟨o', st' b o' eo⟩
end

section
variable {P : Program} {w : World} {K : PySem.W.Frag} {mg : Str → Option Value} {base : Heap} {N : List Str} {qual : Str} {scope : Scope} {f : Addr} {cd : Value} {A : Around} {outer : List Env} {s₀ : Shared} {H₀ : Hp} {E : XK}
/-- a callee's exception is passed on -/
theorem pass1 : Passes (CX1 P w) (cxOf (CX1 P w) P w K mg base N qual scope f cd A outer s₀ H₀ E) E := by
  intro pins σ H1 s1 e s' I h
  obtain ⟨ea, C, H', rfl, F, q⟩ := h
  obtain ⟨B, a0, fly, kb, kt⟩ := F.fly
  show wpAny (model P w) (A.deeper (envOfC qual scope s₀.heap.objs.size f cd)) (leaving (envOfC qual scope s₀.heap.objs.size f cd) (.ref ea)) _ _ s'
  refine wpAny_leaves_onW I.ok.frames rfl fly fun h'' fly' ups => ⟨ea, C, H', rfl, ?_, q⟩
  have b1 : Un (frs outer) [] H₀ H1 s₀.heap s1.heap := I.base
  have nf : ∀ b o, s₀.heap.get? b = some o → b ∉ frs outer → b ∉ frs (envOfC qual scope s₀.heap.objs.size f cd :: outer) := fun b o e hb z => by
    have z' : b ∈ s₀.heap.objs.size :: frs outer := z
    rcases List.mem_cons.mp z' with y | y
    · exact absurd (Heap.lt_size e) (by rw [y]; exact Nat.lt_irrefl _)
    · exact hb y
  have fr : ∀ b ∈ frs (envOfC qual scope s₀.heap.objs.size f cd :: outer), H1 b = none ∧ ∃ o, s1.heap.get? b = some o ∧ ∀ vs, o.data ≠ .fields vs := fun b hb => ⟨I.stkFree b hb, (I.stack.mem hb).2⟩
  have u2 : Un (frs (envOfC qual scope s₀.heap.objs.size f cd :: outer)) [] H1 H' s1.heap h'' := fly_un F.un fr fly.1 kb fly'.1 ups
  have new : s₀.heap.get? ea = none := by
    cases q : s₀.heap.get? ea with
    | none => rfl
    | some o =>
      obtain ⟨o1, e1⟩ := b1.there ea o q (by simp)
      rw [F.new] at e1
      cases e1
  refine ⟨F.os.trans I.os, F.bare, ?_, fly_hok F.hok fly.1 kt fly'.1, new, F.nt, B, a0, fly', fun b o e hb => ?_, kt⟩
  · refine ⟨fun b o e n hb hx => u2.keep b o (b1.keep b o e n hb hx) (b1.free b o e n hx) (nf b o e hb) hx, fun b o e n hb hx => ?_, fun b o e n hx => ?_, fun b o e hx => ?_, fun b xs q => u2.tups b xs (b1.tups b xs q), fun b o u q => u2.frzs b o u (b1.frzs b o u q), fun b ps q => ?_⟩
    · obtain ⟨sl, e1⟩ := b1.slot b o e n hb hx
      obtain ⟨sl2, e2⟩ := u2.any e1 (b1.free b o e n hx) hx
      exact ⟨sl2, e2⟩
    · obtain ⟨o1, e1⟩ := b1.there b o e hx
      exact u2.free b o1 e1 (b1.free b o e n hx) hx
    · obtain ⟨o1, e1⟩ := b1.there b o e hx
      exact u2.there b o1 e1 hx
    · obtain ⟨m1, e1⟩ := b1.tbls b ps q
      obtain ⟨m2, e2⟩ := u2.tbls b _ e1
      exact ⟨m1 ++ m2, by rw [e2, Array.append_assoc]⟩
  · obtain ⟨o1, e1⟩ := b1.there b o e (by simp)
    exact kb b o1 e1 (nf b o e hb)
theorem own_obj {h : Heap} {C : Addr} {bmB : List Value} {newId : String} (X : K.In h) (q : PySem.W.excIn K C bmB newId = true) :
    ∃ bm N nm qn bs hd sn sub ab col dd k0 k1 k2 k3 k5 mN, h.get? C = some (excClassObj nm qn C N bs bm hd sn sub ab col dd k0 k1 k2 k3 k5 newId) ∧ h.Ns N mN ∧ mN "__init__" = none ∧ OwnTail h bmB bm := by
  unfold PySem.W.excIn at q
  split at q
  · rename_i dd cd sl ho
    split at q
    · rename_i C' bm k0 k1 k2 k3 n k5 hm hs
      simp only [Bool.and_eq_true, beq_iff_eq, Bool.not_eq_true'] at q
      obtain ⟨⟨⟨⟨⟨rfl, rfl⟩, hdel⟩, ht⟩, hok⟩, hni⟩ := q
      obtain ⟨nm, bs, mro, ns, qn, hd, sn, sub, ab, col, del⟩ := cd
      dsimp only at hm hdel hok hni
      subst hm hdel
      have hsl : sl = #[k0, k1, k2, k3, some (.builtin n), k5] := by
        obtain ⟨l⟩ := sl
        simp only at hs
        rw [hs]
      subst hsl
      exact ⟨bm, ns, nm, qn, bs, hd, sn, sub, ab, col, dd, k0, k1, k2, k3, k5, _, X _ _ ho, .of_isNs (PySem.W.isNs_of_in X hok), PySem.W.nsMap_none_of_in X hok hni, PySem.W.tail_of_in X ht⟩
    · cases q
  · cases q
/-- an exception class of the text under ValueError, in whatever many steps -/
structure Exc (K : PySem.W.Frag) (mg : Str → Option Value) (x : Str) (C : Addr) : Prop where
  at_ : mg x = some (.ref C)
  ex : PySem.W.excIn K C [.type "ValueError", .type "Exception", .type "BaseException", .type "object"] "ValueError.__new__" = true
/-- raise x(arg) -/
theorem ps_raise {x msg : Str} {C : Addr} {j : Nat} {np cpos pos mp : Pos} (hh : A.handled = none) (Z : Exc K mg x C) (hg : Gl (cxOf (CX1 P w) P w K mg base N qual scope f cd A outer s₀ H₀ E) x)
    (hdb : (x == ("__debug__" : Str)) = false := by decide) :
    PS (cxOf (CX1 P w) P w K mg base N qual scope f cd A outer s₀ H₀ E) (.Raise (some (.Call (.Name x np) [.Constant (.str msg) j mp] [] cpos)) none pos) (fun _ _ H => E (.ref C) none H) := by
  intro pins s σ H D I h
  have hst : starEach [(.Constant (.str msg) j mp : Expr)] (envOfC qual scope s₀.heap.objs.size f cd) = (false, eval (.Constant (.str msg) j mp) (envOfC qual scope s₀.heap.objs.size f cd)) :: starEach [] (envOfC qual scope s₀.heap.objs.size f cd) := rfl
  obtain ⟨bm, Nc, nm, qn, bs, hd, sn, sub, ab, col, dd, k0, k1, k2, k3, k5, mN, hC, hN, hni, T⟩ := own_obj I.mod.kin Z.ex
  refine wpAny_Raise_call_subT (nm := nm) (q := qn) (N := Nc) (bs := bs) (hdct := hd) (sn := sn) (sub := sub) (ab := ab) (col := col) (dd := dd) (k0 := k0) (k1 := k1) (k2 := k2) (k3 := k3) (k5 := k5) PySem.F.excBase_ValueError (T.hasType (by decide +kernel)) hh rfl hni (ld_glob I hg Z.at_ ⟨rfl, ?_⟩ hdb)
  have hA := pa_cons (pe_str (X := cxOf (CX1 P w) P w K mg base N qual scope f cd A outer s₀ H₀ E) (x := msg) (j := j) (pos := mp)) pa_nil hst cpos pins s σ H (fun ws H1 => ws.length = 1 ∧ E (.ref C) none H1) I ⟨rfl, h⟩
  refine Calls.evalArgs_plain (thn hA fun vs s2 ⟨ws, H2, I2, rv, hlen, q⟩ => ⟨rfl, ?_, I2.bk _ _ hC, hN.keeps I2.bk, T.keeps I2.bk, fun h' e hx => ?_⟩)
  · rw [← rv.length, hlen]
    decide
  · have B0 : (PySem.W.hideAll s2.heap (frs (envOfC qual scope s₀.heap.objs.size f cd :: outer))).StaysIn s2.heap := fun b o q => PySem.W.of_hideAll _ q
    have hl : s2.heap.FunFrames (PySem.W.hideAll s2.heap (frs (envOfC qual scope s₀.heap.objs.size f cd :: outer))) (envOfC qual scope s₀.heap.objs.size f cd :: outer) :=
      PySem.W.funFrames_hide (base := base) I2.stack fun env he a ha => List.mem_filterMap.mpr ⟨env, he, ha⟩
    show wpAny (model P w) (A.deeper (envOfC qual scope s₀.heap.objs.size f cd)) (leaving (envOfC qual scope s₀.heap.objs.size f cd) (.ref e)) _ _ { s2 with heap := h' }
    refine wpAny_leaves_madeW (base := PySem.W.hideAll s2.heap (frs (envOfC qual scope s₀.heap.objs.size f cd :: outer))) (h := s2.heap) (args := vs) I2.ok.frames rfl B0 hl hx fun h'' t fly tup bt ups => ⟨e, C, H2, rfl, ?_, q⟩
    have b1 : Un (frs outer) [] H₀ H2 s₀.heap s2.heap := I2.base
    have inB : ∀ b o, s2.heap.get? b = some o → b ∉ frs (envOfC qual scope s₀.heap.objs.size f cd :: outer) → (PySem.W.hideAll s2.heap (frs (envOfC qual scope s₀.heap.objs.size f cd :: outer))).get? b = some o := fun b o e hb => PySem.W.hideAll_get _ e hb
    have nf : ∀ b o, s₀.heap.get? b = some o → b ∉ frs outer → b ∉ frs (envOfC qual scope s₀.heap.objs.size f cd :: outer) := fun b o e hb z => by
      have z' : b ∈ s₀.heap.objs.size :: frs outer := z
      rcases List.mem_cons.mp z' with y | y
      · exact absurd (Heap.lt_size e) (by rw [y]; exact Nat.lt_irrefl _)
      · exact hb y
    have kt : ∀ b u, H2 b = some u → ∃ o', (PySem.W.hideAll s2.heap (frs (envOfC qual scope s₀.heap.objs.size f cd :: outer))).get? b = some o' := fun b u hu => by
      obtain ⟨ob, eb⟩ := (I2.hok b u hu).get
      exact ⟨ob, inB b ob eb fun z => by rw [I2.stkFree b z] at hu; cases hu⟩
    have slot : ∀ b o, s₀.heap.get? b = some o → H₀ b = none → b ∈ frs outer → b ∉ ([] : List Addr) → ∃ sl, h''.get? b = some { o with slots := sl } := fun b o e0 n hb hx' => by
      obtain ⟨sl, e1⟩ := b1.slot b o e0 n hb hx'
      obtain ⟨_, ob, eb, hd'⟩ := I2.ok.funs.mem hb
      have eb' : s₀.heap.get? b = some ob := eb
      rw [e0] at eb'
      cases eb'
      obtain ⟨sl2, e2⟩ := ups b _ (hx.keeps b _ e1) hd'
      exact ⟨sl2, e2⟩
    refine ⟨I2.os, I2.bare, ⟨fun b o e0 n hb hx' => fly.1 b o (inB b o (b1.keep b o e0 n hb hx') (nf b o e0 hb)), slot, b1.free, fun b o e0 hx' => ?_, b1.tups, b1.frzs, b1.tbls⟩, fly_hok (s' := s2) I2.hok B0 kt fly.1, ?_, ?_, _, _, fly, fun b o e0 hb => ?_, kt⟩
    · by_cases hb : b ∈ frs outer
      · obtain ⟨sl, e1⟩ := slot b o e0 (I2.ok.frf b hb) hb hx'
        exact ⟨_, e1⟩
      · obtain ⟨o1, e1⟩ := b1.there b o e0 hx'
        exact ⟨o1, fly.1 b o1 (inB b o1 e1 (nf b o e0 hb))⟩
    · cases q : s₀.heap.get? e with
      | none => rfl
      | some o =>
        obtain ⟨o1, e1⟩ := b1.there e o q (by simp)
        rw [hx.new] at e1
        cases e1
    · cases q : H2 e with
      | none => rfl
      | some u =>
        obtain ⟨ob, eb⟩ := (I2.hok e u q).get
        rw [hx.new] at eb
        cases eb
    · obtain ⟨o1, e1⟩ := b1.there b o e0 (by simp)
      exact ⟨o1, inB b o1 e1 (nf b o e0 hb)⟩
end
end L2

set_option maxHeartbeats 4000000

namespace L2
open PySem PySem.Spec PyProof.Rows
def XP (X : Cx) (pins : List (Addr × Obj)) (σ : St) (E : XK) (e : Value) (s' : Shared) : Prop := ∃ H1 s1, Inv X pins σ H1 s1 ∧ CX1 X.prog X.w X.stack H1 s1 E e s'
abbrev TX := St → Hp → VK → XK → Prop
def PX (X : Cx) (e : Expr) (t : TX) : Prop :=
  ∀ (pins : List (Addr × Obj)) (s : Shared) (σ : St) (H : Hp) (Q : VK) (E : XK), Inv X pins σ H s → t σ H Q E → wpAny (model X.prog X.w) X.A (eval e X.env) (EP X pins σ Q) (XP X pins σ E) s
abbrev TSx := Ends → XK → St → Hp → Prop
def PSx (X : Cx) (st : Stmt) (t : TSx) : Prop :=
  ∀ (pins : List (Addr × Obj)) (s : Shared) (σ : St) (H : Hp) (D : Ends) (E : XK), Inv X pins σ H s → t D E σ H → wpAny (model X.prog X.w) X.A (exec st X.env) (SP X pins D) (XP X pins σ E) s
def PSsx (X : Cx) (st : List Stmt) (t : TSx) : Prop :=
  ∀ (pins : List (Addr × Obj)) (s : Shared) (σ : St) (H : Hp) (D : Ends) (E : XK), Inv X pins σ H s → t D E σ H → wpAny (model X.prog X.w) X.A (execs st X.env) (SP X pins D) (XP X pins σ E) s
theorem noxW {α : Type} {M : Model} {A : Around} {t : Sem α} {Q Q' : α → Shared → Prop} {E : Value → Shared → Prop} {s : Shared} (h : wpAny M A t Q (fun _ _ => False) s) (k : ∀ a s', Q a s' → Q' a s') : wpAny M A t Q' E s :=
  wpAny_mono h k fun _ _ z => z.elim
section
variable {X : Cx} {k : Nat} {f C : Addr} {fd : FuncData} {ps : List Str} {sp : Sp} {dvs : List V} {ds : List Value} {x m : Str} {p pos apos : Pos} {e o : Expr} {es : List Expr} {ta : TE} {t : TA}
theorem run_fnX {E : XK} {pins : List (Addr × Obj)} {σ : St} {H : Hp} {s : Shared} {Q : VK} {us : List Value} {vs : List V} (F : FnOk X.prog X.w X.K X.mg X.base (CX1 X.prog X.w) k f fd ps sp) (hr : Room k X.A) (hb : Binds X.K fd ps ds) (hd : Vals dvs ds)
    (I : Inv X pins σ H s) (r : Vals vs us) (h : sp (vs ++ dvs) H Q E) : wpAny (model X.prog X.w) X.A (call (.ref f) us) (EP X pins σ Q) (XP X pins σ E) s := by
  have r2 : Vals (vs ++ dvs) (us ++ ds) := r.append hd
  have hl : (us ++ ds).length = ps.length := by rw [← r2.length]; exact F.len _ _ _ _ h
  refine wpAny_call (codeAny_mono (F.run X.A X.stack s H ⟨us, []⟩ (us ++ ds) (vs ++ dvs) Q E hr I.env0 (hb s us I.kIn hl) r2 h) fun r s' hq => ?_)
  cases r with
  | error e => exact ⟨H, s, I, hq⟩
  | ok fl =>
    cases fl with
    | ret u => exact I.after hq
    | next => exact False.elim hq
    | brk => exact False.elim hq
    | cont => exact False.elim hq
def xCall (sp : Sp) (dvs : List V) (t : TA) : TX := fun σ H Q E => t σ H fun vs H1 => sp (vs ++ dvs) H1 Q E
theorem px_call (F : FnOk X.prog X.w X.K X.mg X.base (CX1 X.prog X.w) k f fd ps sp) (hr : Room k X.A) (hg : Gl X x) (hm : X.mg x = some (.ref f)) (hk : PySem.W.keepIn X.K (.ref f) = true) (hb : Binds X.K fd ps ds) (hd : Vals dvs ds)
    (ha : PA X.nox (e :: es) t) (hdb : (x == ("__debug__" : Str)) = false := by decide) (he : starEach (e :: es) X.env = (false, eval e X.env) :: starEach es X.env := by rfl) (hpl : (backTo pos (starEach es X.env)).any (·.1) = false := by rfl) :
    PX X (.Call (.Name x p) (e :: es) [] pos) (xCall sp dvs t) := by
  intro pins s σ H Q E I h
  refine wpAny_Call_Name_kw (ld_glob I hg hm ?_ hdb)
  refine PySem.W.callWith_K (h₀ := X.base) I.ok.mod.kin hk (noxW (ha pos pins s σ H _ (I.wish _) h) fun us s1 ⟨vs, H1, I1, r, q⟩ => ⟨I1.unwish.kIn, ?_⟩) he hpl
  exact run_fnX F hr hb hd I1.unwish r q
end

section
variable {X : Cx} {e : Expr} {pos : Pos} {tx : TX}
def xSet (i : Nat) (t : TX) : TSx := fun D E σ H => t σ H (fun v H1 => D.nx (σ.set i (some v)) H1) E
theorem psx_set {i : Nat} {x : Str} {pos' : Pos} (hN : X.N.Nodup) (hi : X.N[i]? = some x) (hx : Loc X.env.scope x) (he : PX X e tx) (hs : swapsWith e (some (.Name x pos')) pos.line X.env = pure false := by rfl) (hf : X.fn x = true ∨ X.env.scope.names.lookup x = some .local := by first | exact .inl rfl | exact .inr rfl | assumption) :
    PSx X (.Assign [.Name x pos'] e pos) (xSet i tx) := by
  intro pins s σ H D E I h
  refine wpAny_Assign_Name (thn (he pins s σ H _ E I h) fun v s1 ⟨y, H1, I1, r1, q1⟩ => ?_) hs
  exact store_ok I1 hN hi hx r1 (fun s2 I2 => ⟨_, H1, I2, q1⟩) hf
theorem pssx_one {st : Stmt} {t : TSx} (h : PSx X st t) : PSsx X [st] t := by
  intro pins s σ H D E I q
  refine wpAny_execs_cons (thn (h pins s σ H D E I q) fun f s1 q1 => ?_)
  cases f with
  | next => exact wpAny_execs_nil q1
  | brk => exact q1
  | cont => exact q1
  | ret v => exact q1
end

def cxS (X : Cx) (ea : Addr) : Cx := { X with A := X.A.mark (some (.ref ea)), calm := false, xe := fun _ _ => False }
/-- an exception that was taken: of the class at C -/
def excO (ea C : Addr) : HO := .ext fun h => ∃ oe vs, h.get? ea = some oe ∧ oe.cls = .ref C ∧ oe.data = .fields vs
section
variable {X : Cx} {pins : List (Addr × Obj)} {σ : St} {H : Hp} {s : Shared} {ea : Addr}
theorem Inv.suite (I : Inv X pins σ H s) : Inv (cxS X ea) pins σ H s :=
  ⟨⟨I.ok.mod, I.ok.kind, I.ok.glob, I.ok.blt, I.ok.above, I.ok.inj, I.ok.has, I.ok.cab, fun z => (by cases z), I.ok.frames, I.ok.stk, I.ok.exf, I.ok.bs, I.ok.bsz, I.ok.noex, I.ok.exfs, I.ok.funs, I.ok.frf⟩, I.os, I.bare, I.base, I.loc, I.cell, I.free, I.freeC, I.pin, I.hok, I.len⟩
theorem Inv.unsuite (ok : X.Ok) (I : Inv (cxS X ea) pins σ H s) : Inv X pins σ H s := ⟨ok, I.os, I.bare, I.base, I.loc, I.cell, I.free, I.freeC, I.pin, I.hok, I.len⟩
theorem Un.track {fs ex : List Addr} {H H' : Hp} {h h' : Heap} {a : Addr} {o : HO} (u : Un fs ex H H' h h') (n : H' a = none) (new : h.get? a = none) : Un fs ex H (upd H' a o) h h' :=
  ⟨u.keep, u.slot, fun b ob q n' hx => by
    rw [upd_ne (fun z => by rw [z, new] at q; cases q)]
    exact u.free b ob q n' hx, u.there, fun b xs q => by
    have q' := u.tups b xs q
    rw [upd_ne (ne_of_none q' n)]
    exact q', fun b ob v q => by
    have q' := u.frzs b ob v q
    rw [upd_ne (ne_of_none q' n)]
    exact q', fun b ps q => by
    obtain ⟨m, q'⟩ := u.tbls b ps q
    exact ⟨m, by rw [upd_ne (ne_of_none q' n)]; exact q'⟩⟩
theorem HOk.track {P : Program} {w : World} {H' : Hp} {h' : Heap} {a : Addr} {o : HO} (k : HOk P w H' h') (n : H' a = none) (new : ObjOk P w (upd H' a o) h' a o) : HOk P w (upd H' a o) h' := fun b u e => by
  by_cases hb : b = a
  · subst hb
    rw [upd_same] at e
    cases e
    exact new
  · rw [upd_ne hb] at e
    exact (k b u e).stay (fun c v _ q => q) (fun c q => by rw [upd_ne (ne_of_none q n)]; exact q) fun c xs q => by rw [upd_ne (ne_of_none q n)]; exact q
theorem name_goes {M : Model} {A : Around} {E : Value → Shared → Prop} {i : Nat} {x : Str} {pos : Pos} {Q : Unit → Shared → Prop} (I : Inv X pins σ H s) (hN : X.N.Nodup) (hi : X.N[i]? = some x) (hk : X.env.scope.names.lookup x = some .local)
    (h : ∀ s', Inv X pins (σ.set i none) H s' → Q () s') : wpAny M A (do bindName X.env x .none; unbindBehindTheSuite X.env x pos) Q E s := by
  obtain ⟨m, hn, hl⟩ := id I.loc
  have hcls : (X.env.scope.kind == .class || (X.env.scope.kind == .module && X.env.locals != X.env.globals)) = false := by rw [I.ok.kind]; rfl
  have hiσ : i < σ.length := by rw [I.len]; exact (List.getElem?_eq_some_iff.mp hi).1
  have cne := I.cne
  refine wpAny_nameGoes_keeps hk hn hcls fun h' v hn' hs => ?_
  have tracked : HOk X.prog X.w H h' := fun b ob e => by
    refine (I.hok b ob e).stay (fun c w' hc q => (hs.2 c ?_).trans q) (fun _ q => q) fun _ _ q => q
    rintro rfl
    rcases hc with rfl | hc
    · rw [I.free] at e; cases e
    · rw [I.free] at hc; cases hc
  refine h _ ⟨I.ok, I.os, I.bare, ⟨fun b o e n hb hx => ?_, fun b o e n hb hx => ?_, I.base.free, fun b o e hx => ?_, I.base.tups, I.base.frzs, I.base.tbls⟩, ⟨_, hn', fun j y v' e1 e2 e3 => ?_⟩, fun y c e => ?_, I.free, I.freeC, fun p hp => ?_, tracked, by simpa using I.len⟩
  · exact (hs.2 b (Nat.ne_of_lt (Nat.lt_of_lt_of_le (Heap.lt_size e) I.ok.above))).trans (I.base.keep b o e n hb hx)
  · obtain ⟨sl, e1⟩ := I.base.slot b o e n hb hx
    exact ⟨sl, (hs.2 b (Nat.ne_of_lt (Nat.lt_of_lt_of_le (Heap.lt_size e) I.ok.above))).trans e1⟩
  · obtain ⟨o', e1⟩ := I.base.there b o e hx
    exact ⟨o', (hs.2 b (Nat.ne_of_lt (Nat.lt_of_lt_of_le (Heap.lt_size e) I.ok.above))).trans e1⟩
  · by_cases hj : j = i
    · subst hj
      rw [List.getElem?_set_self hiσ] at e2
      cases e2
    · rw [List.getElem?_set_ne (Ne.symm hj)] at e2
      obtain ⟨u', r', q⟩ := hl j y v' e1 e2 e3
      refine ⟨u', r', ?_⟩
      rcases q with ⟨k, e⟩ | ⟨k, c, e, z⟩
      · refine .inl ⟨k, ?_⟩
        have : y ≠ x := fun e => hj (nodup_ix hN e1 (e ▸ hi))
        simp [this, e]
      · exact .inr ⟨k, c, e, z.sameBut hs (cne y c e)⟩
  · obtain ⟨w', z⟩ := I.cell y c e
    exact ⟨w', z.sameBut hs (cne y c e)⟩
  · obtain ⟨e, n, ne, nf, d⟩ := I.pin p hp
    exact ⟨(hs.2 p.1 ne).trans e, n, ne, nf, d⟩
end

/-- behind the suite the name is gone -/
def endsAs (D : Ends) (i : Nat) : Ends := { nx := fun σ H => D.nx (σ.set i none) H, rt := D.rt, bk := fun σ H => D.bk (σ.set i none) H, ct := fun σ H => D.ct (σ.set i none) H }
/-- what is wanted of an exception at a try -/
def xTake (K : PySem.W.Frag) (CT : Addr) (i : Nat) (ts : TS) (D : Ends) (σ : St) : XK := fun Cv _ H' => ∃ C, Cv = .ref C ∧ PySem.W.exmOne K (.ref C) (.ref CT) = some true ∧ ∀ ea, H' ea = none → ts (endsAs D i) (σ.set i (some (.ref ea))) (upd H' ea (excO ea C))
section
variable {X : Cx} {T n : Str} {CT : Addr} {i : Nat} {body suite : List Stmt} {b₀ : Stmt} {tb : TSx} {ts : TS} {np hpos pos : Pos}
/-- the exception has come to the clause: the state there, and the state at the suite's start -/
theorem landed {pins : List (Addr × Obj)} {σ : St} {H1 H' : Hp} {s0 s1 : Shared} {ea C : Addr} {Q : Flow → Shared → Prop} {E : Value → Shared → Prop} {nm : Option Str} (hst : X.stack = X.env :: X.outer ∧ X.env.frame = some X.env.locals)
    (hg : Gl X T) (hm : X.mg T = some (.ref CT)) (hdb : (T == ("__debug__" : Str)) = false) (I0 : Inv X pins σ H1 s0) (F : Flies X.prog X.w X.stack H1 s0 ea C H' s1) (hx : PySem.W.exmOne X.K (.ref C) (.ref CT) = some true)
    (k : ∀ (s5 : Shared) (R : Result → Shared → Prop),
      (R = fun r s₂ => match r with
          | .ok f => (match nm with
            | none => Q f s₂
            | some n => wpAny (model X.prog X.w) X.A (do bindName X.env n .none; unbindBehindTheSuite X.env n hpos) (fun _ s₃ => Q f s₃) E s₂)
          | .error x => cameBackBy (model X.prog X.w) X.A X.env E x s₂) →
      (∀ (Q' : Unit → Shared → Prop) (E' : Value → Shared → Prop), (∀ s6, Inv X pins σ (upd H' ea (excO ea C)) s6 → Q' () s6) → wpAny (model X.prog X.w) (X.A.mark (some (.ref ea))) (setFlight (.ref ea) none) Q' E' s5) →
      codeAny (model X.prog X.w) (X.A.mark (some (.ref ea))) (.handlers (.ref ea) [.ExceptHandler none nm (b₀ :: suite) hpos] X.env) R s5) :
    wpAny (model X.prog X.w) X.A (noteFrame (.ref ea) X.env) (fun _ s₂ => wpAny (model X.prog X.w) X.A (setFlight (.ref ea) none) (fun _ s₃ => wpAny (model X.prog X.w) X.A (handleBy (.ref ea) X.env [.ExceptHandler (some (.Name T np)) nm (b₀ :: suite) hpos]) Q E s₃) E s₂) E s1 := by
  obtain ⟨B, a0, fly, kb, kt⟩ := F.fly
  have fr : ∀ b ∈ frs X.stack, H1 b = none ∧ ∃ o, s0.heap.get? b = some o ∧ ∀ vs, o.data ≠ .fields vs := fun b hb => ⟨I0.stkFree b hb, (I0.stack.mem hb).2⟩
  have fly' := fly
  rw [hst.1] at fly'
  refine wpAny_looks_onW (I0.ok.frames.trans (congrArg some hst.1)) hst.2 fly' fun h4 held4 ups4 => ?_
  refine wpAny_landsW held4 fun h5 fly5 ups5 => ?_
  have I5 : Inv X pins σ H' { s1 with heap := h5 } := I0.call' (ch := []) F.os (fly_un F.un fr fly.1 kb fly5.1 (ups4.trans ups5)) (fly_hok F.hok fly.1 kt fly5.1) F.bare (fun _ z => nomatch z)
  obtain ⟨ob5, e5, c5⟩ := fly5.there
  refine wpAny_handleBy_cons (codeAny_handlers_test (ld_glob (X := cxS X ea) I5.suite hg hm ?_ hdb)) (by intro q; cases q)
  have LT : PySem.W.Looks (model X.prog X.w) h5 (typeOf (.ref ea)) (.ref C) := c5 ▸ (PySem.W.Looks.ld e5).andThen .now
  refine (PySem.W.exm_one (K := X.K) (h := h5) I5.kIn LT hx).here ?_
  refine k _ _ rfl fun Q' E' hq => ?_
  refine lands_againW fly5 fun h6 fly6 ups6 => hq _ ?_
  obtain ⟨oe, vs, e6, c6, d6, _⟩ := fly6.first
  refine I0.call' (ch := []) F.os (Un.track (fly_un F.un fr fly.1 kb fly6.1 ((ups4.trans ups5).trans ups6)) F.nt F.new) (HOk.track (fly_hok F.hok fly.1 kt fly6.1) F.nt ?_) F.bare (fun _ z => nomatch z)
  exact ⟨⟨oe, vs, e6, c6, d6⟩, ⟨oe, e6⟩, fun h1 h2 ⟨o, ws, q1, q2, q3⟩ kk => ⟨o, ws, kk o q1, q2, q3⟩⟩
/-- try: body; except T as n: suite -/
theorem ps_try (hst : X.stack = X.env :: X.outer ∧ X.env.frame = some X.env.locals) (hN : X.N.Nodup) (hi : X.N[i]? = some n) (hl : X.env.scope.names.lookup n = some .local) (hg : Gl X T) (hm : X.mg T = some (.ref CT))
    (hb : PSsx X body tb) (hs : ∀ ea, PSs (cxS X ea) (b₀ :: suite) ts) (hdb : (T == ("__debug__" : Str)) = false := by decide) :
    PS X (.Try body [.ExceptHandler (some (.Name T np)) (some n) (b₀ :: suite) hpos] [] [] pos) (fun D σ H => tb D (xTake X.K CT i ts D σ) σ H) := by
  intro pins s σ H D I h
  refine wpAny_Try_except (wpAny_mono (hb pins s σ H D _ I h) (fun f s1 q => ?_) fun e s1 q => ?_)
  · cases f with
    | next => exact wpAny_execs_nil q
    | brk => exact q
    | cont => exact q
    | ret v => exact q
  · obtain ⟨H1, s0, I0, ea, C, H', rfl, F, C', eC, hx, kk⟩ := q
    cases eC
    refine landed hst hg hm hdb I0 F hx fun s5 R eR land => ?_
    subst eR
    refine codeAny_handlers_suite_as (land _ _ fun s6 I6 => ?_)
    refine store_ok (X := cxS X ea) (v := .ref ea) I6.suite hN hi (.inl hl) rfl (fun s7 I7 => ?_) (.inr hl)
    refine wpAny_mono (hs ea pins s7 _ _ (endsAs D i) I7 (kk ea F.nt)) (fun f s8 q8 => ?_) fun _ _ z => z.elim
    cases f with
    | next =>
      obtain ⟨σ8, H8, I8, q⟩ := q8
      exact name_goes (I8.unsuite I.ok) hN hi hl fun s9 I9 => ⟨_, H8, I9, q⟩
    | brk =>
      obtain ⟨σ8, H8, I8, q⟩ := q8
      exact name_goes (I8.unsuite I.ok) hN hi hl fun s9 I9 => ⟨_, H8, I9, q⟩
    | cont =>
      obtain ⟨σ8, H8, I8, q⟩ := q8
      exact name_goes (I8.unsuite I.ok) hN hi hl fun s9 I9 => ⟨_, H8, I9, q⟩
    | ret v =>
      obtain ⟨x8, σ8, H8, I8, r8, q⟩ := q8
      exact name_goes (I8.unsuite I.ok) hN hi hl fun s9 I9 => ⟨x8, _, H8, I9, r8, q⟩
end

def tyVal : V → Option Value
  | .ref a => some (.ref a)
  | .ty n => some (.type n)
  | _ => none
theorem tyVal_of {c : V} {u cv : Value} (r : RelV c u) (e : tyVal c = some cv) : u = cv := by
  cases c <;> first | (cases e; exact r) | cases e
section
variable {X : Cx}
theorem call_isi : CallR X (.builtin "isinstance") (fun xs H Q => ∃ x c cv t b, xs = [x, c] ∧ tyVal c = some cv ∧ TyOf X.K H x t ∧ PySem.W.kitOne X.K t cv = some b ∧ Q (.bl b) H) := by
  intro pins s σ H xs us Q I r h
  obtain ⟨x, c, cv, t, b, rfl, ec, ty, ek, q⟩ := h
  obtain ⟨u, u2, rfl, ru, ru2⟩ := vals2 r
  have e2 := tyVal_of ru2 ec
  subst e2
  exact isinst_ok I ru ty ek fun tk => ⟨.bl b, H, I.tok tk, rfl, q⟩
end
section
variable {K : PySem.W.Frag} {x t c : Value} {P : Heap → Prop}
end
section
variable {X : Cx}
end

mutual
def RdD (H : Hp) : PyData → V → Prop
  | .none, v => v = .non
  | .bool b, v => v = .bl b
  | .int i, v => v = .int i
  | .str x, v => v = .str x
  | .list ds, v => ∃ a xs, v = .ref a ∧ H a = some (.lst xs) ∧ RdDs H ds xs
  | .tuple ds, v => ∃ a xs, v = .ref a ∧ H a = some (.tup xs) ∧ RdDs H ds xs
  | .dict _, _ => False
def RdDs (H : Hp) : List PyData → List V → Prop
  | [], xs => xs = []
  | d :: ds, xs => ∃ x r, xs = x :: r ∧ RdD H d x ∧ RdDs H ds r
end
section
variable {P : Program} {w : World} {H : Hp} {h : Heap}
mutual
theorem reads_of (ok : HOk P w H h) : ∀ {d : PyData} {v : V} {u : Value}, RdD H d v → RelV v u → ∃ as, Reads h u d as
  | .none, v, u, e, r => by
    rw [RdD] at e; subst e
    cases (show u = Value.none from r)
    exact ⟨_, .none⟩
  | .bool b, v, u, e, r => by
    rw [RdD] at e; subst e
    cases (show u = Value.bool b from r)
    exact ⟨_, .bool b⟩
  | .int i, v, u, e, r => by
    rw [RdD] at e; subst e
    obtain ⟨t, rfl⟩ := (show ∃ t, u = Value.int i t from r)
    exact ⟨_, .int i t⟩
  | .str x, v, u, e, r => by
    rw [RdD] at e; subst e
    obtain ⟨t, rfl⟩ := (show ∃ t, u = Value.str x t from r)
    exact ⟨_, .str x t⟩
  | .list ds, v, u, e, r => by
    rw [RdD] at e
    obtain ⟨a, xs, rfl, ha, e⟩ := e
    cases (show u = Value.ref a from r)
    obtain ⟨_, its, n, rv, q⟩ := ok a _ ha
    obtain ⟨as, ra⟩ := readsAll_of ok e rv
    exact ⟨_, .list q rfl rfl (by simpa using ra)⟩
  | .tuple ds, v, u, e, r => by
    rw [RdD] at e
    obtain ⟨a, xs, rfl, ha, e⟩ := e
    cases (show u = Value.ref a from r)
    obtain ⟨_, its, rv, ob, q, hc, n, hd⟩ := ok a _ ha
    obtain ⟨as, ra⟩ := readsAll_of ok e rv
    exact ⟨_, .tuple q hc hd (by simpa using ra)⟩
  | .dict _, v, u, e, r => by
    rw [RdD] at e
    exact e.elim
theorem readsAll_of (ok : HOk P w H h) : ∀ {ds : List PyData} {vs : List V} {us : List Value}, RdDs H ds vs → Vals vs us → ∃ as, ReadsAll h us ds as
  | [], vs, us, e, r => by
    rw [RdDs] at e; subst e
    cases r
    exact ⟨_, .nil⟩
  | d :: ds, vs, us, e, r => by
    rw [RdDs] at e
    obtain ⟨x, rs, rfl, e1, e2⟩ := e
    cases r with
    | cons r1 r2 =>
      obtain ⟨as, ra⟩ := reads_of ok e1 r1
      obtain ⟨bs, rb⟩ := readsAll_of ok e2 r2
      exact ⟨_, .cons ra rb⟩
end
end
section
variable {X : Cx}
def rEqD (neg : Bool) : R2 := fun x y H Q => ∃ da db, RdD H da x ∧ RdD H db y ∧ da.canLay0 = true ∧ db.canLay0 = true ∧ da.depth ≤ 16 ∧ Q (.bl (if neg then !PyData.eqv da db else PyData.eqv da db)) H
theorem op_eqD (hu : X.A.units + 64 < cLine) : OpR X (compareOp .Eq) (rEqD false) := by
  intro pins s σ H x y v u Q I rx ry h
  obtain ⟨da, db, ha, hb, la, lb, dp, q⟩ := h
  obtain ⟨as, ra⟩ := reads_of I.hok ha rx
  obtain ⟨bs, rb⟩ := reads_of I.hok hb ry
  exact SeqAt.compareEq_reads ra rb la lb (by have := Nat.min_le_left da.depth db.depth; omega) ⟨.bl _, H, I, rfl, q⟩
end
end L2

set_option maxHeartbeats 4000000

namespace Bd
open PySem L2

def inB (R C : Nat) (r c : Int) : Prop := 0 ≤ r ∧ r < R ∧ 0 ≤ c ∧ c < C
instance (R C : Nat) (r c : Int) : Decidable (inB R C r c) := by unfold inB; infer_instance
def offs : List (Int × Int) := [(-1, 0), (-1, 1), (0, -1), (0, 1), (1, -1), (1, 0)]
def around (r c : Int) : List (Int × Int) := offs.map fun o => (r + o.1, c + o.2)
def nearL (R C : Nat) (r c : Int) : List (Int × Int) := (around r c).filter fun p => decide (inB R C p.1 p.2)
def keyC (r c : Int) : List Key := [Sum.inl r, Sum.inl c]
def cellsRC (R C : Nat) : List (Nat × Nat) := (List.range R).flatMap fun r => (List.range C).map fun c => (r, c)
def kvsOf (R C : Nat) (own : Nat × Nat → Int) : List (List Key × V) := (cellsRC R C).map fun p => (keyC p.1 p.2, V.int (own p))
theorem mem_cells {R C : Nat} {p : Nat × Nat} : p ∈ cellsRC R C ↔ p.1 < R ∧ p.2 < C := by
  obtain ⟨r, c⟩ := p
  unfold cellsRC
  simp only [List.mem_flatMap, List.mem_range, List.mem_map, Prod.mk.injEq]
  constructor
  · rintro ⟨a, ha, b, hb, rfl, rfl⟩
    exact ⟨ha, hb⟩
  · rintro ⟨h1, h2⟩
    exact ⟨r, h1, c, h2, rfl, rfl⟩
theorem cells_succ (R C : Nat) : cellsRC (R + 1) C = cellsRC R C ++ (List.range C).map fun c => (R, c) := by
  unfold cellsRC
  rw [List.range_succ, List.flatMap_append]
  simp
theorem keyC_inj {r c r' c' : Int} (h : keyC r c = keyC r' c') : r = r' ∧ c = c' := by
  unfold keyC at h
  simp only [List.cons.injEq, Sum.inl.injEq, and_true] at h
  exact h
theorem keyC_nat {p q : Nat × Nat} (h : keyC p.1 p.2 = keyC q.1 q.2) : p = q := by
  obtain ⟨h1, h2⟩ := keyC_inj h
  obtain ⟨a, b⟩ := p
  obtain ⟨a', b'⟩ := q
  simp only at h1 h2
  rw [Int.ofNat.inj h1, Int.ofNat.inj h2]
section
variable {α κ : Type} [DecidableEq κ]
theorem valV_map_mem (k : α → κ) (v : α → V) (p0 : α) : ∀ l : List α, p0 ∈ l → (∀ p ∈ l, k p = k p0 → p = p0) → valV (l.map fun p => (k p, v p)) (k p0) = some (v p0)
  | [], h, _ => by simp at h
  | p :: r, h, inj => by
    rw [List.map_cons]
    by_cases e : k p = k p0
    · rw [valV_pos e, inj p (List.mem_cons.mpr (.inl rfl)) e]
    · rw [valV_neg e]
      refine valV_map_mem k v p0 r ?_ fun q hq => inj q (List.mem_cons.mpr (.inr hq))
      rcases List.mem_cons.mp h with z | z
      · exact absurd (by rw [z]) e
      · exact z
theorem valV_map_none (k : α → κ) (v : α → V) (key : κ) : ∀ l : List α, (∀ p ∈ l, k p ≠ key) → valV (l.map fun p => (k p, v p)) key = none
  | [], _ => rfl
  | p :: r, h => by
    rw [List.map_cons, valV_neg (h p (List.mem_cons.mpr (.inl rfl)))]
    exact valV_map_none k v key r fun q hq => h q (List.mem_cons.mpr (.inr hq))
theorem putK_map (k : α → κ) (v v' : α → V) (p0 : α) (z : V) (l : List α) (h : p0 ∈ l) (inj : ∀ p ∈ l, k p = k p0 → p = p0) (e0 : v' p0 = z) (e1 : ∀ p ∈ l, p ≠ p0 → v' p = v p) :
    putK (l.map fun p => (k p, v p)) (k p0) z = l.map fun p => (k p, v' p) := by
  unfold putK
  rw [if_pos]
  · rw [List.map_map]
    refine List.map_congr_left fun p hp => ?_
    show (if k p = k p0 then (k p, z) else (k p, v p)) = (k p, v' p)
    by_cases e : k p = k p0
    · have := inj p hp e
      subst this
      rw [if_pos rfl, e0]
    · rw [if_neg e, e1 p hp fun z => e (by rw [z])]
  · rw [valV_any, valV_map_mem k v p0 l h inj]
    rfl
end
theorem val_kvs (R C : Nat) (own : Nat × Nat → Int) (r c : Int) : valV (kvsOf R C own) (keyC r c) = if inB R C r c then some (V.int (own (r.toNat, c.toNat))) else none := by
  by_cases h : inB R C r c
  · rw [if_pos h]
    obtain ⟨h1, h2, h3, h4⟩ := h
    have e : keyC r c = (fun p : Nat × Nat => keyC p.1 p.2) (r.toNat, c.toNat) := by
      show keyC r c = keyC ((r.toNat : Nat) : Int) ((c.toNat : Nat) : Int)
      rw [Int.toNat_of_nonneg h1, Int.toNat_of_nonneg h3]
    rw [e]
    exact valV_map_mem (fun p : Nat × Nat => keyC p.1 p.2) (fun p => V.int (own p)) (r.toNat, c.toNat) _ (mem_cells.mpr ⟨by show r.toNat < R; omega, by show c.toNat < C; omega⟩) fun p _ q => keyC_nat q
  · rw [if_neg h]
    refine valV_map_none (fun p : Nat × Nat => keyC p.1 p.2) (fun p => V.int (own p)) _ _ fun p hp e => h ?_
    obtain ⟨e1, e2⟩ := keyC_inj e
    obtain ⟨l1, l2⟩ := mem_cells.mp hp
    refine ⟨?_, ?_, ?_, ?_⟩ <;> omega
theorem len_cells (R C : Nat) : (cellsRC R C).length = R * C := by
  induction R with
  | zero => simp [cellsRC]
  | succ n ih => rw [cells_succ, List.length_append, ih, List.length_map, List.length_range, Nat.succ_mul]
theorem len_kvs (R C : Nat) (own : Nat × Nat → Int) : (kvsOf R C own).length = R * C := by
  unfold kvsOf
  rw [List.length_map, len_cells]
theorem n_hw : ¬ (("height" : Str) = "width") := by decide +kernel
theorem n_ho : ¬ (("height" : Str) = "owners") := by decide +kernel
theorem n_wo : ¬ (("width" : Str) = "owners") := by decide +kernel
def bflds (r c : Int) (d : Addr) : List (Str × V) := putF "owners" (.ref d) (putF "width" (.int c) (putF "height" (.int r) []))
theorem bflds_h (r c : Int) (d : Addr) : (bflds r c d).lookup ("height" : Str) = some (.int r) := by
  unfold bflds
  rw [lookup_putF, if_neg n_ho, lookup_putF, if_neg n_hw, lookup_putF, if_pos rfl]
theorem bflds_w (r c : Int) (d : Addr) : (bflds r c d).lookup ("width" : Str) = some (.int c) := by
  unfold bflds
  rw [lookup_putF, if_neg n_wo, lookup_putF, if_pos rfl]
theorem bflds_o (r c : Int) (d : Addr) : (bflds r c d).lookup ("owners" : Str) = some (.ref d) := by
  unfold bflds
  rw [lookup_putF, if_pos rfl]
theorem bflds_no (r c : Int) (d : Addr) {m : Str} (h1 : ¬ m = "owners") (h2 : ¬ m = "width") (h3 : ¬ m = "height") : (bflds r c d).lookup m = none := by
  unfold bflds
  rw [lookup_putF, if_neg h1, lookup_putF, if_neg h2, lookup_putF, if_neg h3]
  rfl
/-- a Board of R rows and C columns stands at p, its cells as own says -/
structure BoardAt (CB : Addr) (H : Hp) (p d : Addr) (R C : Nat) (own : Nat × Nat → Int) : Prop where
  ob : ∃ dx, H p = some (.ins CB dx (bflds R C d))
  dc : H d = some (.dT (kvsOf R C own))
theorem BoardAt.mono {CB : Addr} {H H' : Hp} {p d : Addr} {R C : Nat} {own : Nat × Nat → Int} (b : BoardAt CB H p d R C own) (s : Same H H') : BoardAt CB H' p d R C own :=
  ⟨let ⟨dx, e⟩ := b.ob; ⟨dx, s _ _ e⟩, s _ _ b.dc⟩
/-- a pair of ints -/
def CellAt (H : Hp) (b : Addr) (r c : Int) : Prop := H b = some (.tup [.int r, .int c])
theorem CellAt.mono {H H' : Hp} {b : Addr} {r c : Int} (h : CellAt H b r c) (s : Same H H') : CellAt H' b r c := s _ _ h
theorem cell_get {CB : Addr} {H : Hp} {p d b : Addr} {R C : Nat} {own : Nat × Nat → Int} {r c : Int} (B : BoardAt CB H p d R C own) (h : CellAt H b r c) :
    DGet H d (.ref b) (if inB R C r c then some (V.int (own (r.toNat, c.toNat))) else none) := by
  rw [← val_kvs]
  exact DGet.t B.dc h
/-- the addresses as hold the cells cs -/
def CellsAt (H : Hp) : List Addr → List (Int × Int) → Prop := Paired fun a p => CellAt H a p.1 p.2
theorem CellsAt.mono {H H' : Hp} {as : List Addr} {cs : List (Int × Int)} (h : CellsAt H as cs) (s : Same H H') : CellsAt H' as cs := Paired.mapP h fun _ _ q => q.mono s
theorem CellsAt.append {H : Hp} : ∀ {as bs : List Addr} {cs ds : List (Int × Int)}, CellsAt H as cs → CellsAt H bs ds → CellsAt H (as ++ bs) (cs ++ ds)
  | _, _, _, _, .nil, h => h
  | _, _, _, _, .cons q t, h => .cons q (CellsAt.append t h)
theorem CellsAt.len {H : Hp} : ∀ {as : List Addr} {cs : List (Int × Int)}, CellsAt H as cs → as.length = cs.length
  | _, _, .nil => rfl
  | _, _, .cons _ t => by rw [List.length_cons, List.length_cons, CellsAt.len t]
theorem CellsAt.get {H : Hp} : ∀ {as : List Addr} {cs : List (Int × Int)} {i : Nat} {a : Addr}, CellsAt H as cs → as[i]? = some a → ∃ p, cs[i]? = some p ∧ CellAt H a p.1 p.2
  | _, _, _, _, .nil, e => by simp at e
  | _, _, 0, _, .cons q _, e => by
    simp at e
    subst e
    exact ⟨_, rfl, q⟩
  | _, _, i + 1, a, .cons _ t, e => by
    obtain ⟨p, h1, h2⟩ := CellsAt.get (i := i) (a := a) t (by simpa using e)
    exact ⟨p, by simpa using h1, h2⟩
/-- a list of cells -/
def LCells (H : Hp) (l : Addr) (cs : List (Int × Int)) : Prop := ∃ as, H l = some (.lst (as.map V.ref)) ∧ CellsAt H as cs
def cellD (p : Int × Int) : PyData := .tuple [.int p.1, .int p.2]
theorem rd_cells {H : Hp} : ∀ {as : List Addr} {cs : List (Int × Int)}, CellsAt H as cs → RdDs H (cs.map cellD) (as.map V.ref)
  | _, _, .nil => by rw [List.map_nil, List.map_nil, RdDs]
  | _, _, .cons q t => by
    rw [List.map_cons, List.map_cons, RdDs]
    refine ⟨_, _, rfl, ?_, rd_cells t⟩
    unfold cellD
    rw [RdD]
    refine ⟨_, _, rfl, q, ?_⟩
    rw [RdDs]
    refine ⟨_, _, rfl, by rw [RdD], ?_⟩
    rw [RdDs]
    refine ⟨_, _, rfl, by rw [RdD], ?_⟩
    rw [RdDs]
theorem LCells.mono {H H' : Hp} {l : Addr} {cs : List (Int × Int)} (h : LCells H l cs) (s : Same H H') : LCells H' l cs := let ⟨as, h1, h2⟩ := h; ⟨as, s _ _ h1, h2.mono s⟩
/-- another list was changed -/
theorem LCells.other {H : Hp} {l m : Addr} {cs : List (Int × Int)} {xs ys : List V} (h : LCells H l cs) (n : l ≠ m) (hm : H m = some (.lst xs)) : LCells (upd H m (.lst ys)) l cs := by
  obtain ⟨as, h1, h2⟩ := h
  refine ⟨as, by rw [upd_ne n]; exact h1, Paired.mapP h2 fun a p e => ?_⟩
  have e' : H a = some (.tup [.int p.1, .int p.2]) := e
  show (upd H m (.lst ys)) a = _
  rw [upd_ne (fun z => by rw [z, hm] at e'; cases e')]
  exact e'
theorem rd_bools {H : Hp} : ∀ (bs : List Bool), RdDs H (bs.map PyData.bool) (bs.map V.bl)
  | [] => by rw [List.map_nil, List.map_nil, RdDs]
  | b :: r => by
    rw [List.map_cons, List.map_cons, RdDs]
    exact ⟨_, _, rfl, by rw [RdD], rd_bools r⟩
theorem rd_lbools {H : Hp} {l : Addr} (bs : List Bool) (h : H l = some (.lst (bs.map V.bl))) : RdD H (.list (bs.map PyData.bool)) (.ref l) := by
  rw [RdD]
  exact ⟨l, _, rfl, h, rd_bools bs⟩
theorem LCells.rd {H : Hp} {l : Addr} {cs : List (Int × Int)} (h : LCells H l cs) : RdD H (.list (cs.map cellD)) (.ref l) := by
  obtain ⟨as, h1, h2⟩ := h
  rw [RdD]
  exact ⟨l, _, rfl, h1, rd_cells h2⟩
end Bd

set_option maxHeartbeats 4000000

namespace L2
open PySem PySem.Spec PyProof.Rows
section
variable {P : Program} {w : World} {K : PySem.W.Frag} {mg : Str → Option Value} {base : Heap}
/-- a def that may raise -/
theorem Fun.ok1 {x qual : Str} {st : Stmt} {f : Addr} {fd : FuncData} {N ps : List Str} {k : Nat} {sp : Sp} (F : Fun K x qual st f fd) (S : FnScope N ps (defScope st)) (len : ∀ vs H Q E, sp vs H Q E → vs.length = ps.length)
    (hbody : ∀ (cdv : Value) (A : Around) (outer : List Env) (s : Shared) (H : Hp) (vs : List V) (Q : VK) (E : XK), Room k (A.deeper (envOfC qual (defScope st) s.heap.objs.size f cdv)) → sp vs H Q E →
      ∃ t, PSs (cxOf (CX1 P w) P w K mg base N qual (defScope st) f cdv A outer s H E) (defBody st) t ∧ t { nx := fun _ H' => Q .non H', rt := Q } (start N vs) H) : FnOk P w K mg base (CX1 P w) (k + 1) f fd ps sp := by
  obtain ⟨oc, od, kV, doc, pm, an, cdv, ct, osl, rfl, lk, hcd⟩ := F.ex
  exact fn_of lk hcd S len fun A outer s H vs Q E hr hsp => hbody cdv A outer s H vs Q E hr hsp
/-- a def that does not -/
theorem Fun.ok0 {x qual : Str} {st : Stmt} {f : Addr} {fd : FuncData} {N ps : List Str} {k : Nat} {sp : Sp} (F : Fun K x qual st f fd) (S : FnScope N ps (defScope st)) (len : ∀ vs H Q E, sp vs H Q E → vs.length = ps.length)
    (hbody : ∀ (cdv : Value) (A : Around) (outer : List Env) (s : Shared) (H : Hp) (vs : List V) (Q : VK) (E : XK), Room k (A.deeper (envOfC qual (defScope st) s.heap.objs.size f cdv)) → sp vs H Q E →
      ∃ t, PSs (cxOf (CX1 P w) P w K mg base N qual (defScope st) f cdv A outer s H E).nox (defBody st) t ∧ t { nx := fun _ H' => Q .non H', rt := Q } (start N vs) H) : FnOk P w K mg base (CX1 P w) (k + 1) f fd ps sp :=
  F.ok1 S len fun cdv A outer s H vs Q E hr hsp => let ⟨t, h, q⟩ := hbody cdv A outer s H vs Q E hr hsp; ⟨t, h.nox, q⟩
end
theorem iteY {c A B : Prop} [Decidable c] (h : c) (a : A) : if c then A else B := by rw [if_pos h]; exact a
theorem iteN {c A B : Prop} [Decidable c] (h : ¬ c) (b : B) : if c then A else B := by rw [if_neg h]; exact b
theorem SqL.upd {K : PySem.W.Frag} {H : Hp} {a D : Addr} {xs : List V} {o : HO} (h : SqL K H a xs) (n : H D = none) : SqL K (upd H D o) a xs := by
  rcases h with (h | ⟨ob, h⟩) | h
  · exact .inl (.inl (by rw [upd_ne (ne_of_none h n)]; exact h))
  · exact .inl (.inr ⟨ob, by rw [upd_ne (ne_of_none h n)]; exact h⟩)
  · exact .inr h
theorem Same.upd {H : Hp} {D : Addr} {o : HO} (n : H D = none) : Same H (upd H D o) := fun b u e => by rw [upd_ne (ne_of_none e n)]; exact e
end L2

namespace Bd
open PySem L2
theorem CellsAt.mem {H : Hp} : ∀ {as : List Addr} {cs : List (Int × Int)} {a : Addr}, CellsAt H as cs → a ∈ as → ∃ p, p ∈ cs ∧ CellAt H a p.1 p.2
  | _, _, _, .nil, h => by simp at h
  | _, _, a, .cons q t, h => by
    rcases List.mem_cons.mp h with rfl | z
    · exact ⟨_, List.mem_cons.mpr (.inl rfl), q⟩
    · obtain ⟨p, h1, h2⟩ := CellsAt.mem t z
      exact ⟨p, List.mem_cons.mpr (.inr h1), h2⟩
end Bd
namespace Bd
open PySem L2
theorem kvs_row (i j C : Nat) : putK (kvsOf i C (fun _ => 0) ++ (List.range j).map fun c : Nat => (keyC (i : Nat) (c : Nat), V.int 0)) (keyC i j) (V.int 0) = kvsOf i C (fun _ => 0) ++ (List.range (j + 1)).map fun c : Nat => (keyC (i : Nat) (c : Nat), V.int 0) := by
  have h : valV (kvsOf i C (fun _ => 0) ++ (List.range j).map fun c : Nat => (keyC (i : Nat) (c : Nat), V.int 0)) (keyC i j) = none := by
    have e : (kvsOf i C (fun _ => 0) ++ (List.range j).map fun c => (keyC (i : Nat) (c : Nat), V.int 0)) = ((cellsRC i C ++ (List.range j).map fun c => (i, c)).map fun p : Nat × Nat => (keyC p.1 p.2, V.int 0)) := by
      rw [List.map_append, List.map_map]
      rfl
    rw [e]
    refine valV_map_none (fun p : Nat × Nat => keyC p.1 p.2) (fun _ => V.int 0) _ _ fun p hp z => ?_
    obtain ⟨z1, z2⟩ := keyC_inj z
    rcases List.mem_append.mp hp with h | h
    · have := (mem_cells.mp h).1
      omega
    · obtain ⟨c, hc, rfl⟩ := List.mem_map.mp h
      have := List.mem_range.mp hc
      simp only at z2
      omega
  rw [putK_new _ h, List.append_assoc, List.range_succ, List.map_append]
  rfl
theorem kvs_next (i C : Nat) : kvsOf i C (fun _ => 0) ++ (List.range C).map (fun c : Nat => (keyC (i : Nat) (c : Nat), V.int 0)) = kvsOf (i + 1) C (fun _ => 0) := by
  unfold kvsOf
  rw [cells_succ, List.map_append, List.map_map]
  rfl
end Bd

set_option maxHeartbeats 4000000

namespace L2
open PySem PySem.Spec PySem.Builtin PySem.Builtin.ObjectAttr PySem.Builtin.Getset_descriptor PyProof.Rows PySem.W
/-- what is asked of an exception class of the text -/
structure ExcCls (K : PySem.W.Frag) (C : Addr) : Prop where
  ga : findIn K (.ref C) "__getattribute__" = some (some (.builtin "BaseException.__getattribute__"))
  gr : findIn K (.ref C) "__getattr__" = some none
  cl : findIn K (.ref C) "__class__" = some (some (.builtin "object.__class__"))
  ob : mroIn K C (.type "object") = some true
  be : subIn K (.ref C) (.type "BaseException") = some true
section
variable {prog : Program} {w : World} {A : Around} {E : Value → Shared → Prop} {h : Heap} {g : Array GenState} {d : Drawn} {t : Nat} {os : OsState} {a : Addr} {o : Obj} {K : PySem.W.Frag} {C : Addr}
theorem exc_class_get {R : Result → Shared → Prop} {tp : Value} (X : K.In h) (Z : ExcCls K C) (hx : h.get? a = some o) (hc : o.cls = .ref C) (hq : R (.ok (.ret (.ref C))) ⟨h, g, d, t, os⟩) :
    codeAny (model prog w) A (.call (.builtin "getset_descriptor.__get__") ⟨[.builtin "object.__class__", .ref a, tp], []⟩) R ⟨h, g, d, t, os⟩ := by
  have L0 : Looks (model prog w) h (typeOf (.ref a)) (.ref C) := hc ▸ (Looks.ld hx).andThen .now
  have L1 := looks_mroIn (M := model prog w) X Z.ob
  refine codeAny_call_builtin KF.slot_gs.plain KF.entry_gs (KF.slot_gs.check _ _ _ _ _ _ _ _ KF.type_class (KF.args_gs _ _ _) ?_)
  unfold Builtin.«getset_descriptor.__get__» descrGet
  rw [dga_obj]
  refine wpAny_bind (wpAny_pure ?_)
  unfold descrGetter descrCheckInstance descrNameAndClass isInstance
  simp only [KF.owner_class]
  repeat lk
  refine ⟨Code.quiet_builtin _ (by decide +kernel), codeAny_builtin KF.entry_class ?_⟩
  unfold Builtin.«object.__class__» shownTypeOf
  repeat lk
  exact hq
theorem exc_class_entry {tk : Tok} {Q : Fin → Shared → Prop} (X : K.In h) (Z : ExcCls K C) (hx : h.get? a = some o) (hc : o.cls = .ref C) (hq : Q (.done (.ret (.ref C))) ⟨h, g, d, t, os⟩) :
    wpAny (model prog w) A (Builtin.«object.__getattribute__» ⟨[.ref a, .str "__class__" tk], []⟩) Q E ⟨h, g, d, t, os⟩ := by
  have hT5 : (⟨h, g, d, t, os⟩ : Shared).TypeIs (.builtin "object.__class__") "getset_descriptor" := F.typeOf_object_class
  have f5 := F.typeOf_object_class
  have f6 := F.slot_gs_get.lookup
  have f7 := F.slot_gs_set.lookup
  have L3 := looks_findIn (M := model prog w) X Z.cl
  repeat (any_goals (first | assumption | (with_reducible refine wpAny_loadPart_at hx ?_; rw [hc]) | (with_reducible refine L3.at ?_) | wp_step))
  refine exc_class_get X Z hx hc ?_
  repeat (any_goals (first | assumption | wp_step))
theorem exc_check_ga {M : Model} {nameV : Value} {Q : Unit → Shared → Prop} (X : K.In h) (Z : ExcCls K C) (hx : h.get? a = some o) (hc : o.cls = .ref C) (hq : Q () ⟨h, g, d, t, os⟩) :
    wpAny M A (checkBuiltinCall "BaseException.__getattribute__" ⟨[.ref a, nameV], []⟩) Q E ⟨h, g, d, t, os⟩ := by
  have hk : builtinKind "BaseException.__getattribute__" = some .slot := by decide +kernel
  have hsplit : splitId "BaseException.__getattribute__" = some ("BaseException", "__getattribute__") := by decide +kernel
  have L4 := looks_subIn (M := M) X Z.be
  have ha := F.args_bexc_ga (.ref a) nameV
  simp only [checkBuiltinCall, hk, hsplit]
  refine wpAny_bind ?_
  unfold isInstance
  repeat (first | (with_reducible refine wpAny_loadPart_at hx ?_; rw [hc]) | (with_reducible refine L4.at ?_) | wp_step)
  exact hq
theorem exc_class_by {tk : Tok} {Q : Value → Shared → Prop} (X : K.In h) (Z : ExcCls K C) (hx : h.get? a = some o) (hc : o.cls = .ref C) (hq : Q (.ref C) ⟨h, g, d, t, os⟩) :
    wpAny (model prog w) A (getAttrBy (.ref a) (.str "__class__" tk) false) Q E ⟨h, g, d, t, os⟩ := by
  have f3 := F.attr_ValueError.ga.bind (.ref a)
  have hx2 : (Value.builtin "BaseException.__getattribute__" == Value.builtin "object.__getattribute__") = false := by decide +kernel
  have hx1 : (onTheHeap (Value.ref C) && Value.builtin "BaseException.__getattribute__" == Value.builtin "object.__getattribute__") = false := by rw [hx2]; rfl
  have L1 := looks_findIn (M := model prog w) X Z.ga
  have L2 := looks_findIn (M := model prog w) X Z.gr
  repeat (any_goals (first | assumption | (with_reducible refine wpAny_loadPart_at hx ?_; rw [hc]) | (with_reducible refine L1.at ?_) | (with_reducible refine L2.at ?_) | wp_step))
  refine codeAny_call_builtin F.attr_ValueError.ga.plain F.entry_bexc_ga (exc_check_ga X Z hx hc (exc_class_entry X Z hx hc ?_))
  repeat (any_goals (first | assumption | wp_step))
theorem exc_class_attr {Q : Option Value → Shared → Prop} (X : K.In h) (Z : ExcCls K C) (hx : h.get? a = some o) (hc : o.cls = .ref C) (hq : Q (some (.ref C)) ⟨h, g, d, t + 1, os⟩) :
    wpAny (model prog w) A (getAttr? (.ref a) "__class__") Q E ⟨h, g, d, t, os⟩ := by
  unfold getAttr? getAttrBy?
  repeat (any_goals (first | assumption | with_reducible apply exc_class_by X Z hx hc | wp_step))
theorem kitx_exc {a : Addr} (Z : ExcCls K C) (hcls : ∃ cd, clsIn K C = some cd) : KitX K (.ref a) (.ref C) (fun h => ∃ o, h.get? a = some o ∧ o.cls = .ref C) where
  ty := fun M h _ ⟨o, h1, h2⟩ => h2 ▸ (Looks.ld h1).andThen .now
  it := fun _ _ X _ => by
    obtain ⟨cd, hcd⟩ := hcls
    unfold clsIn at hcd
    split at hcd
    · rename_i c' d' cd' sl' ho
      intro A' Q' E' s' k q
      unfold isType loadHead
      exact wpAny_bind (wpAny_loadPart (k _ _ (X _ _ ho)) (wpAny_pure q))
    · cases hcd
  ne := fun h tp dd its n sl X htp => by
    obtain ⟨cd, hcd⟩ := hcls
    refine Bool.eq_false_iff.mpr fun q => ?_
    have e : C = tp := Value.ref.inj (beq_iff_eq.mp q)
    subst e
    unfold clsIn at hcd
    split at hcd
    · rename_i c' d' cd' sl' ho
      have z := (X _ _ ho).symm.trans htp
      cases z
    · cases hcd
  ca := fun {_ _ _ _ _ s} X ⟨o, h1, h2⟩ k => by
    obtain ⟨h, g, d, t, os⟩ := s
    exact exc_class_attr X Z h1 h2 k
end
def rIsiE (K : PySem.W.Frag) : List V → Hp → VK → Prop := fun xs H Q => ∃ a C c cv b, xs = [.ref a, c] ∧ tyVal c = some cv ∧ H a = some (excO a C) ∧ ExcCls K C ∧ (∃ cd, clsIn K C = some cd) ∧ kitOne K (.ref C) cv = some b ∧ Q (.bl b) H
section
variable {X : Cx}
/-- isinstance(e, T) of a taken exception -/
theorem call_isiE : CallR X (.builtin "isinstance") (rIsiE X.K) := by
  intro pins s σ H xs us Q I r h
  obtain ⟨a, C, c, cv, b, rfl, ec, ha, Z, hcd, ek, q⟩ := h
  obtain ⟨u, u2, rfl, ru, ru2⟩ := vals2 r
  have e2 := tyVal_of ru2 ec
  subst e2
  obtain rfl : u = Value.ref a := ru
  obtain ⟨⟨oe, vs, e1, e2, _⟩, _⟩ := I.hok a _ ha
  exact kia_one (kitx_exc Z hcd) I.kIn ⟨oe, e1, e2⟩ ek (fun z => nomatch z) fun tk => ⟨.bl b, H, I.tok tk, rfl, q⟩
end
end L2

set_option maxHeartbeats 4000000

namespace L2
open PySem PySem.Spec PyProof.Rows
section
variable {prog : Program} {w : World} {A : Around} {E : Value → Shared → Prop} {s : Shared} {it d : Addr} {i n ep : Nat} {od : Obj} {es : Array DictEntry}
end
end L2
namespace L2
open PySem PySem.Spec PyProof.Rows
section
variable {prog : Program} {w : World} {A : Around} {E : Value → Shared → Prop} {s : Shared} {it d : Addr} {i n ep : Nat} {od : Obj} {es : Array DictEntry}
end

theorem Paired.at_ {α β : Type} {F : α → β → Prop} : ∀ {l₁ : List α} {l₂ : List β} {i : Nat} {x : α}, Paired F l₁ l₂ → l₁[i]? = some x → ∃ y, l₂[i]? = some y ∧ F x y
  | _, _, _, _, .nil, e => by simp at e
  | _, _, 0, _, .cons q _, e => by
    simp at e
    subst e
    exact ⟨_, rfl, q⟩
  | _, _, i + 1, x, .cons _ t, e => by
    obtain ⟨y, h1, h2⟩ := Paired.at_ (i := i) (x := x) t (by simpa using e)
    exact ⟨y, by simpa using h1, h2⟩
section
variable {X : Cx} {pins : List (Addr × Obj)} {σ : St} {H : Hp} {s : Shared} {a : Addr} {kvs : List (List Key × V)} {o : Obj}
end
section
variable {X : Cx} {tg e : Expr} {te : TE}
end
end L2

set_option maxHeartbeats 4000000

namespace L2
open PySem PySem.Spec PyProof.Rows
section
variable {prog : Program} {w : World} {K : Type} [DecidableEq K] {knd : HeapKind prog w K} {A : Around} {E : Value → Shared → Prop} {s : Shared}
end
section
variable {X : Cx} {pins : List (Addr × Obj)} {σ : St} {H : Hp} {s : Shared} {a b : Addr} {kvs : List (List Key × V)} {k : List Key} {A : Around} {E : Value → Shared → Prop}
end
end L2

set_option maxHeartbeats 4000000

namespace L2
open PySem PySem.Spec PyProof.Rows
section
variable {prog : Program} {w : World} {d : Addr} {od : Obj} {es : Array DictEntry} {ep : Nat}
end
section
variable {X : Cx}
end
end L2

set_option maxHeartbeats 4000000

namespace L2
open PySem PySem.Spec PyProof.Rows
open Builtin Builtin.Str
theorem vals_strs : ∀ l : List (Str × Tok), Vals ((l.map (·.1)).map V.str) (strValues l)
  | [] => .nil
  | p :: r => .cons ⟨p.2, rfl⟩ (vals_strs r)
section
variable {X : Cx}
def rSplit : V → List V → Hp → VK → Prop := fun x vs H Q => ∃ z y, x = .str z ∧ vs = [.str y] ∧ (y.length == 0) = false ∧ z.length ≤ sizeLine ∧ (partsBetween z (occurrences z y 0 z.length (z.length + 1)) y.length).length ≤ sizeLine ∧ (Txt.split z y).length ≤ sizeLine ∧
  ∀ l, H l = none → Q (.ref l) (upd H l (.lst ((Txt.split z y).map V.str)))
theorem mt_split : MtM X "str.split" rSplit := by
  intro pins s σ H x vs v us Q I rx rv h
  obtain ⟨z, y, rfl, rfl, hy, hz, hz2, hz3, q⟩ := h
  obtain ⟨t, rfl⟩ := rx
  obtain ⟨u, rfl, ru⟩ := rv.one
  obtain ⟨tu, rfl⟩ := ru
  have lay : ∀ (l : List (Str × Tok)) (tk : Nat), l.map (·.1) = Txt.split z y → ∃ (xv : V) (H' : Hp), Inv X pins σ H' { s with toks := tk, heap := s.heap.push { cls := .type "list", data := .seq (strValues l).toArray } } ∧ RelV xv (.ref s.heap.objs.size) ∧ Q xv H' := fun l tk e => by
    refine ⟨.ref s.heap.objs.size, _, I.laid (a := s.heap.objs.size) (o := .lst ((Txt.split z y).map V.str)) (t' := tk) (fun _ _ q => Heap.get?_push_of_some _ q) (Nat.le_refl _) ?_, rfl, q _ (I.hok.fresh (Nat.le_refl _))⟩
    refine ⟨by rw [List.length_map]; exact hz3, strValues l, 0, ?_, Heap.get?_push_size _ rfl⟩
    rw [← e]
    exact vals_strs l
  cases h1 : (decide (z.length < y.length) || decide (strKind z < strKind y))
  · cases hf : (occurrences z y 0 z.length (z.length + 1)).isEmpty
    · refine call_meets F.slot_str_split (typeIs_str _ _ _) F.entry_str_split (F.args_str_split_2 _ _) (meets_str_split_sep z y t tu h1 hy hf hz hz2) ?_
      show wants (EP X pins σ Q) X.xe _ { s with toks := _, heap := s.heap.push { cls := .type "list", data := .seq (strsFrom s.toks (partsBetween z (occurrences z y 0 z.length (z.length + 1)) y.length)).toArray } }
      rw [strsFrom_eq]
      exact lay _ _ ((numbered_texts _ _).trans ((if_neg (ne_true_of_eq_false h1)).trans (if_neg (ne_true_of_eq_false hf))).symm)
    · refine call_meets F.slot_str_split (typeIs_str _ _ _) F.entry_str_split (F.args_str_split_2 _ _) (meets_str_split_not_found z y t tu h1 hy hf) ?_
      exact lay [(z, t)] _ ((if_neg (ne_true_of_eq_false h1)).trans (if_pos hf)).symm
  · refine call_meets F.slot_str_split (typeIs_str _ _ _) F.entry_str_split (F.args_str_split_2 _ _) (meets_str_split_cannot_occur z y t tu h1) ?_
    exact lay [(z, t)] _ (if_pos h1).symm
/-- x.find(y) -/
def findS (x y : Str) : Int := match occurrences x y 0 x.length 1 with | i :: _ => (i : Int) | [] => -1
def rFind : V → List V → Hp → VK → Prop := fun x vs H Q => ∃ z y, x = .str z ∧ vs = [.str y] ∧ Q (.int (findS z y)) H
theorem mt_find : MtM X "str.find" rFind := by
  intro pins s σ H x vs v us Q I rx rv h
  obtain ⟨z, y, rfl, rfl, q⟩ := h
  obtain ⟨t, rfl⟩ := rx
  obtain ⟨u, rfl, ru⟩ := rv.one
  obtain ⟨tu, rfl⟩ := ru
  exact call_gives F.slot_str_find (typeIs_str _ _ _) F.entry_str_find (F.args_str_find_2 _ _) (gives_str_find z y t tu) ⟨.int (findS z y), H, I.tok _, ⟨_, rfl⟩, q⟩
/-- z[lo:hi] of a text: some text that is no longer -/
def rSlS : V → Option Int → Option Int → Hp → VK → Prop := fun x lo hi H Q => ∃ z, x = .str z ∧ z.length ≤ sizeLine ∧ ∀ y : Str, y.length ≤ z.length → Q (.str y) H
theorem part_is {v : Value} {o : Option Int} (p : IsPart v o) : ∃ l : Option (Int × Tok), v = partValue l ∧ o = l.map (·.1) := by
  cases p with
  | none => exact ⟨none, rfl, rfl⟩
  | int i t => exact ⟨some (i, t), rfl, rfl⟩
theorem sl_str : SlR X rSlS := by
  intro pins s σ H x v vl vu lo hi sl Q I rx hs pl pu h
  obtain ⟨z, rfl, hz, q⟩ := h
  obtain ⟨t, rfl⟩ := rx
  obtain ⟨l, rfl, rfl⟩ := part_is pl
  obtain ⟨u, rfl, rfl⟩ := part_is pu
  refine ⟨"str", _, F.slot_str_getitem.lookup, typeIs_str _ _ _, wpAny_getItem_str_slice (l := l) (u := u) (st := none) hs rfl (post_val_or_str ⟨?_, fun t' k => ?_⟩)⟩
  · exact Nat.le_trans (Txt.slice_le z (l.map Prod.fst) (u.map Prod.fst)) hz
  · refine ⟨.str (Txt.slice z (l.map Prod.fst) (u.map Prod.fst)), H, I.tok _, ⟨_, rfl⟩, q _ (Txt.slice_le z (l.map Prod.fst) (u.map Prod.fst))⟩
theorem fold_len (xs : Array Nat) : ∀ (n : Nat) (acc : Array Nat), ((List.replicate n xs).foldl (· ++ ·) acc).size = acc.size + n * xs.size
  | 0, acc => by simp
  | n + 1, acc => by
    rw [List.replicate_succ, List.foldl_cons, fold_len xs n (acc ++ xs), Array.size_append, Nat.succ_mul]
    omega
/-- z * n, n a small number: some text that is so much longer at most -/
theorem op_mul_str : OpR X (binaryOp .Mult) (fun x y H Q => ∃ z n, x = .str z ∧ y = .int n ∧ 2 ≤ n ∧ n ≤ 100 ∧ z.length ≤ 1000 ∧ ∀ r : Str, r.length ≤ z.length * n.toNat → Q (.str r) H) := by
  intro pins s σ H x y v u Q I rx ry h
  obtain ⟨z, n, rfl, rfl, h1, h2, hz, q⟩ := h
  obtain ⟨t, rfl⟩ := rx
  obtain ⟨tu, rfl⟩ := ry
  have hm : z.length * n.toNat ≤ 1000 * 100 := Nat.mul_le_mul hz (by omega)
  have sl : 1000 * 100 ≤ sizeLine := by rw [sizeLine_eq]; decide
  have hd : (1000 : Int) ≤ (2 ^ 63 - 1) / n := Int.le_ediv_of_mul_le (by omega) (by omega)
  refine P.mul_str (by simp only [Bool.or_eq_false_iff, decide_eq_false_iff_not]; omega) (fun _ _ => by omega) (fun _ _ => by unfold tooLong; simp only [gt_iff_lt, decide_eq_false_iff_not]; omega) ?_
  rw [if_neg (by omega)]
  have e : z.length ≤ z.length * n.toNat := Nat.le_mul_of_pos_right _ (by omega)
  have lr : (Str.length ⟨(List.replicate n.toNat z.cps).foldl (· ++ ·) #[]⟩) = z.length * n.toNat := by
    show ((List.replicate n.toNat z.cps).foldl (· ++ ·) #[]).size = _
    rw [fold_len]
    show 0 + n.toNat * z.length = _
    rw [Nat.zero_add, Nat.mul_comm]
  refine post_val_or_str ⟨?_, fun t' k => ⟨.str _, H, I.tok _, ⟨_, rfl⟩, q _ ?_⟩⟩
  · split
    · omega
    · rw [lr]; omega
  · split
    · exact e
    · rw [lr]; exact Nat.le_refl _
end
end L2

set_option maxHeartbeats 4000000

namespace L2
open PySem PySem.Spec PyProof.Rows
theorem Paired.filter {α β : Type} {F : α → β → Prop} {g : β → Bool} {f : α → Bool} (hg : ∀ a b, F a b → f a = g b) : ∀ {l : List α} {m : List β}, Paired F l m → Paired F (l.filter f) (m.filter g)
  | _, _, .nil => .nil
  | _, _, .cons (a := a) (b := b) q t => by
    rw [List.filter_cons, List.filter_cons, hg a b q]
    cases g b with
    | true => exact .cons q (Paired.filter hg t)
    | false => exact Paired.filter hg t
end L2

namespace Bd
open PySem L2
end Bd
namespace Bd
open PySem L2
/-- the cell (r, c) is h from here on -/
def setO (own : Nat × Nat → Int) (r c h : Int) : Nat × Nat → Int := fun p => if p = (r.toNat, c.toNat) then h else own p
theorem put_kvs {R C : Nat} {own : Nat × Nat → Int} {r c h : Int} (hb : inB R C r c) : putK (kvsOf R C own) (keyC r c) (V.int h) = kvsOf R C (setO own r c h) := by
  obtain ⟨h1, h2, h3, h4⟩ := hb
  have e : keyC r c = (fun p : Nat × Nat => keyC p.1 p.2) (r.toNat, c.toNat) := by
    show keyC r c = keyC ((r.toNat : Nat) : Int) ((c.toNat : Nat) : Int)
    rw [Int.toNat_of_nonneg h1, Int.toNat_of_nonneg h3]
  rw [e]
  exact putK_map (fun p : Nat × Nat => keyC p.1 p.2) (fun p => V.int (own p)) (fun p => V.int (setO own r c h p)) (r.toNat, c.toNat) (V.int h) _ (mem_cells.mpr ⟨by show r.toNat < R; omega, by show c.toNat < C; omega⟩) (fun p _ q => keyC_nat q)
    (by show V.int (setO own r c h (r.toNat, c.toNat)) = _; unfold setO; rw [if_pos rfl]) (fun p _ n => by show V.int (setO own r c h p) = _; unfold setO; rw [if_neg n])
/-- the law's own dict: the cells that are not empty -/
def LD (H : Hp) (o : Addr) (R C : Nat) (own : Nat × Nat → Int) (n : Nat) : Prop :=
  ∃ kvs, H o = some (.dT kvs) ∧ kvs.length ≤ n ∧ ∀ r c, valV kvs (keyC r c) = if inB R C r c ∧ own (r.toNat, c.toNat) ≠ 0 then some (V.int (own (r.toNat, c.toNat))) else none
theorem LD.mono {H H' : Hp} {o : Addr} {R C n : Nat} {own : Nat × Nat → Int} (h : LD H o R C own n) (s : Same H H') : LD H' o R C own n := let ⟨kvs, h1, h2⟩ := h; ⟨kvs, s _ _ h1, h2⟩
theorem LD.get {H : Hp} {o b : Addr} {R C n : Nat} {own : Nat × Nat → Int} {r c : Int} (h : LD H o R C own n) (hc : CellAt H b r c) : DGet H o (.ref b) (if inB R C r c ∧ own (r.toNat, c.toNat) ≠ 0 then some (V.int (own (r.toNat, c.toNat))) else none) := by
  obtain ⟨kvs, h1, _, h2⟩ := h
  rw [← h2]
  exact DGet.t h1 hc
theorem toNat_inj {R C : Nat} {r c r' c' : Int} (h : inB R C r c) (h' : inB R C r' c') : (r'.toNat, c'.toNat) = (r.toNat, c.toNat) ↔ r' = r ∧ c' = c := by
  obtain ⟨h1, _, h2, _⟩ := h
  obtain ⟨h3, _, h4, _⟩ := h'
  rw [Prod.mk.injEq]
  omega
theorem LD.put {kvs : List (List Key × V)} {R C : Nat} {own : Nat × Nat → Int} {r c hd : Int} (hb : inB R C r c) (h0 : hd ≠ 0) (h : ∀ r c, valV kvs (keyC r c) = if inB R C r c ∧ own (r.toNat, c.toNat) ≠ 0 then some (V.int (own (r.toNat, c.toNat))) else none) :
    ∀ r' c', valV (putK kvs (keyC r c) (V.int hd)) (keyC r' c') = if inB R C r' c' ∧ setO own r c hd (r'.toNat, c'.toNat) ≠ 0 then some (V.int (setO own r c hd (r'.toNat, c'.toNat))) else none := by
  intro r' c'
  by_cases e : r' = r ∧ c' = c
  · obtain ⟨rfl, rfl⟩ := e
    have e1 : setO own r' c' hd (r'.toNat, c'.toNat) = hd := by unfold setO; rw [if_pos rfl]
    rw [valV_put, if_pos rfl, e1, if_pos ⟨hb, h0⟩]
  · have n1 : ¬ keyC r c = keyC r' c' := fun z => e (by have := keyC_inj z; exact ⟨this.1.symm, this.2.symm⟩)
    rw [valV_put, if_neg (fun z => n1 z.symm), h]
    by_cases hb' : inB R C r' c'
    · have n2 : ¬ (r'.toNat, c'.toNat) = (r.toNat, c.toNat) := fun z => e ((toNat_inj hb hb').mp z)
      unfold setO
      rw [if_neg n2]
    · rw [if_neg (fun z => hb' z.1), if_neg (fun z => hb' z.1)]
/-- a pair of a value and a list of marks -/
def Ans (H : Hp) (t : Addr) (x : V) (ms : List Bool) : Prop := ∃ l, H t = some (.tup [x, .ref l]) ∧ H l = some (.lst (ms.map V.bl))
theorem Ans.but {H H' : Hp} {t d : Addr} {x : V} {ms : List Bool} {kvs kvs' : List (List Key × V)} (h : Ans H t x ms) (hd : H d = some (.dT kvs)) (k : ∀ a u, H a = some u → a ≠ d → H' a = some u) : Ans H' t x ms := by
  obtain ⟨l, h1, h2⟩ := h
  exact ⟨l, k t _ h1 (ne_of h1 hd (fun z => nomatch z)), k l _ h2 (ne_of h2 hd (fun z => nomatch z))⟩
end Bd
namespace Bd
open PySem L2
end Bd

set_option maxHeartbeats 4000000
namespace Bd
open PySem L2
section
variable {X : Cx} {pins : List (Addr × Obj)} {σ : St} {H : Hp} {s : Shared}
end
section
variable {X : Cx}
end
end Bd

namespace Flood
variable {α : Type} [DecidableEq α]
def keys (L : List (α × Option α)) : List α := L.map (·.1)
def lk (L : List (α × Option α)) (c : α) : Option (Option α) := (L.find? fun p => decide (p.1 = c)).map (·.2)
/-- how a flood grows: a start, or a neighbour of one that is there -/
inductive Fl (S O : α → Prop) (N : α → α → Prop) : List (α × Option α) → Prop
  | nil : Fl S O N []
  | start {L : List (α × Option α)} {c : α} : Fl S O N L → S c → O c → c ∉ keys L → Fl S O N (L ++ [(c, none)])
  | step {L : List (α × Option α)} {c b : α} : Fl S O N L → b ∈ keys L → N b c → O c → c ∉ keys L → Fl S O N (L ++ [(c, some b)])
/-- the way back from c -/
inductive Back (L : List (α × Option α)) : α → List α → Prop
  | stop {c : α} : lk L c = some none → Back L c [c]
  | more {c b : α} {w : List α} : lk L c = some (some b) → Back L b w → Back L c (c :: w)
theorem lk_some {L : List (α × Option α)} {c : α} (h : c ∈ keys L) : ∃ o, lk L c = some o := by
  unfold keys at h
  obtain ⟨p, hp, e⟩ := List.mem_map.mp h
  unfold lk
  cases q : L.find? fun p => decide (p.1 = c) with
  | none =>
    have := List.find?_eq_none.mp q p hp
    simp [e] at this
  | some x => exact ⟨_, rfl⟩
theorem lk_old {L M : List (α × Option α)} {c : α} {o : Option α} (h : lk L c = some o) : lk (L ++ M) c = some o := by
  unfold lk at h ⊢
  rw [List.find?_append]
  cases q : L.find? fun p => decide (p.1 = c) with
  | none => rw [q] at h; cases h
  | some x => rw [q] at h; exact h
theorem lk_none {L : List (α × Option α)} {c : α} (h : c ∉ keys L) : L.find? (fun p => decide (p.1 = c)) = none := by
  rw [List.find?_eq_none]
  intro p hp
  simp only [decide_eq_true_eq]
  exact fun e => h (List.mem_map.mpr ⟨p, hp, e⟩)
theorem lk_new {L : List (α × Option α)} {c : α} {o : Option α} (h : c ∉ keys L) : lk (L ++ [(c, o)]) c = some o := by
  unfold lk
  rw [List.find?_append, lk_none h]
  simp
theorem Back.old {L M : List (α × Option α)} {c : α} {w : List α} (h : Back L c w) : Back (L ++ M) c w := by
  induction h with
  | stop e => exact .stop (lk_old e)
  | more e _ ih => exact .more (lk_old e) ih
theorem keys_snoc (L : List (α × Option α)) (c : α) (o : Option α) : keys (L ++ [(c, o)]) = keys L ++ [c] := by simp [keys]
/-- what a way back is -/
structure Way (S O : α → Prop) (N : α → α → Prop) (L : List (α × Option α)) (c : α) (w : List α) : Prop where
  back : Back L c w
  sub : ∀ x ∈ w, x ∈ keys L
  own : ∀ x ∈ w, O x
  nd : w.Nodup
  link : ∀ i x y, w[i]? = some x → w[i + 1]? = some y → N y x
  first : ∀ x, w.getLast? = some x → S x
  head : w.head? = some c
theorem Way.old {S O : α → Prop} {N : α → α → Prop} {L M : List (α × Option α)} {c : α} {w : List α} (h : Way S O N L c w) : Way S O N (L ++ M) c w :=
  ⟨h.back.old, fun x hx => by unfold keys; rw [List.map_append]; exact List.mem_append_left _ (h.sub x hx), h.own, h.nd, h.link, h.first, h.head⟩
theorem Fl.way {S O : α → Prop} {N : α → α → Prop} {L : List (α × Option α)} (F : Fl S O N L) : ∀ c ∈ keys L, ∃ w, Way S O N L c w := by
  induction F with
  | nil => intro c h; simp [keys] at h
  | @start L c _ hs ho hn ih =>
    intro x hx
    rw [keys_snoc] at hx
    rcases List.mem_append.mp hx with h | h
    · obtain ⟨w, hw⟩ := ih x h
      exact ⟨w, hw.old⟩
    · have e := List.mem_singleton.mp h
      subst e
      refine ⟨[x], .stop (lk_new hn), fun y hy => ?_, fun y hy => ?_, by simp, fun i a b h1 h2 => by simp at h2, fun y hy => ?_, rfl⟩
      · rw [List.mem_singleton.mp hy, keys_snoc]; exact List.mem_append_right _ (List.mem_singleton.mpr rfl)
      · rw [List.mem_singleton.mp hy]; exact ho
      · simp at hy; rw [← hy]; exact hs
  | @step L c b _ hb hN ho hn ih =>
    intro x hx
    rw [keys_snoc] at hx
    rcases List.mem_append.mp hx with h | h
    · obtain ⟨w, hw⟩ := ih x h
      exact ⟨w, hw.old⟩
    · have e := List.mem_singleton.mp h
      subst e
      obtain ⟨w, hw⟩ := ih b hb
      refine ⟨x :: w, .more (lk_new hn) hw.back.old, fun y hy => ?_, fun y hy => ?_, ?_, fun i u v h1 h2 => ?_, fun y hy => ?_, rfl⟩
      · rcases List.mem_cons.mp hy with rfl | hy
        · rw [keys_snoc]; exact List.mem_append_right _ (List.mem_singleton.mpr rfl)
        · exact hw.old.sub y hy
      · rcases List.mem_cons.mp hy with rfl | hy
        · exact ho
        · exact hw.own y hy
      · exact List.nodup_cons.mpr ⟨fun m => hn (hw.sub _ m), hw.nd⟩
      · cases i with
        | zero =>
          simp only [List.getElem?_cons_zero, Option.some.injEq] at h1
          have h3 : w[0]? = some v := by simpa using h2
          have h4 : w.head? = some b := hw.head
          rw [List.head?_eq_getElem?, h3] at h4
          cases h4
          rw [← h1]
          exact hN
        | succ i => exact hw.link i u v (by simpa using h1) (by simpa using h2)
      · cases w with
        | nil => have := hw.head; simp at this
        | cons z r =>
          rw [List.getLast?_cons_cons] at hy
          exact hw.first y hy
theorem Fl.nd {S O : α → Prop} {N : α → α → Prop} {L : List (α × Option α)} (F : Fl S O N L) : (keys L).Nodup := by
  induction F with
  | nil => simp [keys]
  | start _ _ _ hn ih => rw [keys_snoc, List.nodup_append]; exact ⟨ih, by simp, fun a ha b hb e => hn (by rw [← List.mem_singleton.mp hb, ← e]; exact ha)⟩
  | step _ _ _ _ hn ih => rw [keys_snoc, List.nodup_append]; exact ⟨ih, by simp, fun a ha b hb e => hn (by rw [← List.mem_singleton.mp hb, ← e]; exact ha)⟩
end Flood

set_option maxHeartbeats 4000000
namespace Bd
open PySem L2
def firstL (R C : Nat) (h : Int) : List (Int × Int) := if h = 1 then (List.range R).map (fun r : Nat => ((r : Int), (0 : Int))) else (List.range C).map (fun c : Nat => ((0 : Int), (c : Int)))
def onLast (R C : Nat) (h r c : Int) : Bool := if h = 1 then decide (c = (C : Int) - 1) else decide (r = (R : Int) - 1)
/-- a dict of the cell ahead of each cell -/
def AheadAt (H : Hp) (a : Addr) (L : List ((Int × Int) × Option (Int × Int))) : Prop := ∃ kvs, H a = some (.dT kvs) ∧ kvs.length = L.length ∧ ∀ r c, match Flood.lk L (r, c) with
  | none => valV kvs (keyC r c) = none
  | some none => valV kvs (keyC r c) = some .non
  | some (some p) => ∃ b, valV kvs (keyC r c) = some (.ref b) ∧ CellAt H b p.1 p.2
theorem AheadAt.mono {H H' : Hp} {a : Addr} {L : List ((Int × Int) × Option (Int × Int))} (h : AheadAt H a L) (s : Same H H') : AheadAt H' a L := by
  obtain ⟨kvs, h1, h2, h3⟩ := h
  refine ⟨kvs, s _ _ h1, h2, fun r c => ?_⟩
  have q := h3 r c
  cases e : Flood.lk L (r, c) with
  | none => rw [e] at q; exact q
  | some o =>
    cases o with
    | none => rw [e] at q; exact q
    | some p =>
      rw [e] at q
      obtain ⟨b, q1, q2⟩ := q
      exact ⟨b, q1, q2.mono s⟩
end Bd

namespace Hex
section
variable {R C : Nat} {col A B : Nat → Nat → Bool}
def e2 (A B : Nat → Nat → Bool) (r c r' c' : Nat) : Bool := (A r c && B r' c') || (B r c && A r' c')
def xs (f : Nat → Bool) : Nat → Bool
  | 0 => false
  | n + 1 => xs f n ^^ f n
end

abbrev Cell := Int × Int
def offs : List Cell := [(-1, 0), (-1, 1), (0, -1), (0, 1), (1, -1), (1, 0)]
def adj (p q : Cell) : Prop := ∃ o ∈ offs, q = (p.1 + o.1, p.2 + o.2)
def Walk : List Cell → Prop
  | [] => True
  | [_] => True
  | a :: b :: r => adj a b ∧ Walk (b :: r)
def par (f : Cell → Cell → Bool) : List Cell → Bool
  | [] => false
  | [_] => false
  | a :: b :: r => f a b ^^ par f (b :: r)
section
variable {l : List Cell} {a0 z0 : Cell} {rest : List Cell}
end
end Hex

namespace Bd
abbrev Cl := Int × Int
theorem mem_near {R C : Nat} {p q : Cl} : q ∈ nearL R C p.1 p.2 ↔ inB R C q.1 q.2 ∧ Hex.adj p q := by
  unfold nearL around
  rw [List.mem_filter, List.mem_map]
  constructor
  · rintro ⟨⟨o, ho, rfl⟩, h⟩
    exact ⟨by simpa using h, o, ho, rfl⟩
  · rintro ⟨h, o, ho, rfl⟩
    exact ⟨⟨o, ho, rfl⟩, by simpa using h⟩
/-- a chain of the hand h through the cells O -/
structure IsChain (R C : Nat) (O : Cl → Prop) (h : Int) (ps : List Cl) : Prop where
  nd : ps.Nodup
  inb : ∀ p ∈ ps, inB R C p.1 p.2
  own : ∀ p ∈ ps, O p
  link : ∀ (i : Nat) (p q : Cl), ps[i]? = some p → ps[i + 1]? = some q → q ∈ nearL R C p.1 p.2
  first : ∃ p, ps.head? = some p ∧ p ∈ firstL R C h
  last : ∃ p, ps.getLast? = some p ∧ onLast R C h p.1 p.2 = true
theorem IsChain.mono {R C : Nat} {O O' : Cl → Prop} {h : Int} {ps : List Cl} (c : IsChain R C O h ps) (k : ∀ p, p ∈ ps → O p → O' p) : IsChain R C O' h ps :=
  ⟨c.nd, c.inb, fun p hp => k p hp (c.own p hp), c.link, c.first, c.last⟩
theorem IsChain.ne {R C : Nat} {O : Cl → Prop} {h : Int} {ps : List Cl} (c : IsChain R C O h ps) : ps ≠ [] := fun e => by
  obtain ⟨p, h1, _⟩ := c.first
  rw [e] at h1
  cases h1
theorem walk_of : ∀ {R C : Nat} {ps : List Cl}, (∀ (i : Nat) (p q : Cl), ps[i]? = some p → ps[i + 1]? = some q → q ∈ nearL R C p.1 p.2) → Hex.Walk ps
  | _, _, [], _ => trivial
  | _, _, [_], _ => trivial
  | _, _, a :: b :: r, h => ⟨(mem_near.mp (h 0 a b rfl rfl)).2, walk_of (fun i p q h1 h2 => h (i + 1) p q (by simpa using h1) (by simpa using h2))⟩
theorem nodup_sub_len {α : Type} [DecidableEq α] : ∀ {l m : List α}, l.Nodup → (∀ x ∈ l, x ∈ m) → l.length ≤ m.length
  | [], _, _, _ => Nat.zero_le _
  | a :: l, m, h, k => by
    have h' := List.nodup_cons.mp h
    have e := List.length_erase_of_mem (k a (by simp))
    have z := nodup_sub_len (l := l) (m := m.erase a) h'.2 (fun x hx => (List.mem_erase_of_ne (fun e => h'.1 (by rw [← e]; exact hx))).mpr (k x (List.mem_cons_of_mem _ hx)))
    have p : 0 < m.length := List.length_pos_of_mem (k a (by simp))
    rw [List.length_cons]
    omega
/-- unlike cells of a board are no more than it has -/
theorem len_in {R C : Nat} {ps : List Cl} (nd : ps.Nodup) (hi : ∀ p ∈ ps, inB R C p.1 p.2) : ps.length ≤ R * C := by
  have z := nodup_sub_len (l := ps) (m := (cellsRC R C).map fun p => ((p.1 : Int), (p.2 : Int))) nd (fun p hp => by
    have h := hi p hp
    unfold inB at h
    refine List.mem_map.mpr ⟨(p.1.toNat, p.2.toNat), mem_cells.mpr ⟨by dsimp only; omega, by dsimp only; omega⟩, ?_⟩
    obtain ⟨a, b⟩ := p
    dsimp only at h ⊢
    rw [Int.toNat_of_nonneg h.1, Int.toNat_of_nonneg h.2.2.1])
  rw [List.length_map, len_cells] at z
  exact z
end Bd

namespace Bd
/-- the way back by the cell ahead -/
inductive BackA (A : Cl → Option Cl) : Cl → List Cl → Prop
  | stop {c : Cl} : A c = none → BackA A c [c]
  | more {c b : Cl} {w : List Cl} : A c = some b → BackA A b w → BackA A c (c :: w)
theorem BackA.head {A : Cl → Option Cl} {c : Cl} {w : List Cl} (h : BackA A c w) : ∃ r, w = c :: r := by
  cases h with
  | stop _ => exact ⟨_, rfl⟩
  | more _ _ => exact ⟨_, rfl⟩
theorem BackA.det {A : Cl → Option Cl} {c : Cl} {w w' : List Cl} (h : BackA A c w) (h' : BackA A c w') : w = w' := by
  induction h generalizing w' with
  | stop e => cases h' with
    | stop _ => rfl
    | more e' _ => rw [e] at e'; cases e'
  | more e b ih => cases h' with
    | stop e' => rw [e] at e'; cases e'
    | more e' b' =>
      rw [e] at e'
      cases e'
      rw [ih b']
theorem BackA.tail {A : Cl → Option Cl} {c x : Cl} {w : List Cl} (h : BackA A c w) (m : x ∈ w) : ∃ w', BackA A x w' ∧ w'.length ≤ w.length := by
  induction h with
  | stop e => rw [List.mem_singleton.mp m]; exact ⟨_, .stop e, Nat.le_refl _⟩
  | more e b ih =>
    rcases List.mem_cons.mp m with rfl | m
    · exact ⟨_, .more e b, Nat.le_refl _⟩
    · obtain ⟨w', h1, h2⟩ := ih m
      exact ⟨w', h1, Nat.le_succ_of_le h2⟩
theorem BackA.nd {A : Cl → Option Cl} {c : Cl} {w : List Cl} (h : BackA A c w) : w.Nodup := by
  induction h with
  | stop e => simp
  | more e b ih =>
    refine List.nodup_cons.mpr ⟨fun m => ?_, ih⟩
    obtain ⟨w', h1, h2⟩ := b.tail m
    have := h1.det (.more e b)
    rw [this, List.length_cons] at h2
    omega
def setF {β : Type} (f : Cl → β) (q : Cl) (v : β) : Cl → β := fun p => if p = q then v else f p
theorem setF_same {β : Type} (f : Cl → β) (q : Cl) (v : β) : setF f q v q = v := if_pos rfl
theorem setF_ne {β : Type} (f : Cl → β) {p q : Cl} (v : β) (n : p ≠ q) : setF f q v p = f p := if_neg n
theorem BackA.keep {A : Cl → Option Cl} {c q : Cl} {o : Option Cl} {w : List Cl} (h : BackA A c w) (n : q ∉ w) : BackA (setF A q o) c w := by
  induction h with
  | @stop c e => exact .stop (by rw [setF_ne _ _ (fun z => n (by rw [z]; simp))]; exact e)
  | @more c b w e _ ih => exact .more (by rw [setF_ne _ _ (fun z => n (by rw [z]; simp))]; exact e) (ih fun m => n (List.mem_cons_of_mem _ m))
def putL (ks : List Cl) (q : Cl) : List Cl := if q ∈ ks then ks else ks ++ [q]
theorem mem_putL {ks : List Cl} {q p : Cl} : p ∈ putL ks q ↔ p ∈ ks ∨ p = q := by
  unfold putL
  by_cases h : q ∈ ks
  · rw [if_pos h]
    exact ⟨.inl, fun z => z.elim id fun e => by rw [e]; exact h⟩
  · rw [if_neg h, List.mem_append, List.mem_singleton]
theorem putL_nd {ks : List Cl} {q : Cl} (h : ks.Nodup) : (putL ks q).Nodup := by
  unfold putL
  by_cases m : q ∈ ks
  · rw [if_pos m]; exact h
  · rw [if_neg m, List.nodup_append]
    exact ⟨h, by simp, fun a ha b hb e => m (by rw [← List.mem_singleton.mp hb, ← e]; exact ha)⟩
/-- a search under way -/
structure SpInv (R C : Nat) (pass : Cl → Prop) (pr : Cl → Nat) (h : Int) (ks : List Cl) (N : Cl → Nat) (A : Cl → Option Cl) (ws : List Cl) (ex : Cl → Prop) : Prop where
  nd : ks.Nodup
  own : ∀ p ∈ ks, pass p
  sub : ∀ p ∈ ws, p ∈ ks
  st : ∀ p ∈ firstL R C h, pass p → p ∈ ks ∧ N p ≤ pr p
  root : ∀ p ∈ ks, A p = none → p ∈ firstL R C h ∧ N p = pr p
  edge : ∀ p ∈ ks, ∀ q, A p = some q → q ∈ ks ∧ p ∈ nearL R C q.1 q.2 ∧ N q + pr p ≤ N p ∧ (q ∈ ws ∨ ex q ∨ N q + pr p = N p)
  back : ∀ p ∈ ks, ∃ w, BackA A p w
  cl : ∀ p ∈ ks, p ∈ ws ∨ ex p ∨ ∀ q ∈ nearL R C p.1 p.2, pass q → q ∈ ks ∧ N q ≤ N p + pr q
  bnd : ∀ p ∈ ks, N p ≤ ks.length
section
variable {R C : Nat} {pass : Cl → Prop} {pr : Cl → Nat} {h : Int} {ks : List Cl} {N : Cl → Nat} {A : Cl → Option Cl} {ws : List Cl} {ex : Cl → Prop}
theorem SpInv.low (I : SpInv R C pass pr h ks N A ws ex) {c : Cl} {w : List Cl} (b : BackA A c w) (hc : c ∈ ks) : ∀ x ∈ w, x ∈ ks ∧ N x ≤ N c := by
  induction b with
  | stop e => intro x hx; rw [List.mem_singleton.mp hx]; exact ⟨hc, Nat.le_refl _⟩
  | more e b ih =>
    intro x hx
    have g := I.edge _ hc _ e
    rcases List.mem_cons.mp hx with rfl | hx
    · exact ⟨hc, Nat.le_refl _⟩
    · have z := ih g.1 x hx
      exact ⟨z.1, by omega⟩
theorem SpInv.pop {c : Cl} (I : SpInv R C pass pr h ks N A (c :: ws) (fun _ => False)) : SpInv R C pass pr h ks N A ws (fun x => x = c) := by
  refine ⟨I.nd, I.own, fun p hp => I.sub p (List.mem_cons_of_mem _ hp), I.st, I.root, fun p hp q e => ?_, I.back, fun p hp => ?_, I.bnd⟩
  · obtain ⟨g1, g2, g3, g4⟩ := I.edge p hp q e
    refine ⟨g1, g2, g3, ?_⟩
    rcases g4 with y | y | y
    · rcases List.mem_cons.mp y with y | y
      · exact .inr (.inl y)
      · exact .inl y
    · exact y.elim
    · exact .inr (.inr y)
  · rcases I.cl p hp with y | y | y
    · rcases List.mem_cons.mp y with y | y
      · exact .inr (.inl y)
      · exact .inl y
    · exact y.elim
    · exact .inr (.inr y)
theorem SpInv.done {c : Cl} (I : SpInv R C pass pr h ks N A ws (fun x => x = c)) (k : ∀ q ∈ nearL R C c.1 c.2, pass q → q ∈ ks ∧ N q ≤ N c + pr q) : SpInv R C pass pr h ks N A ws (fun _ => False) := by
  refine ⟨I.nd, I.own, I.sub, I.st, I.root, fun p hp q e => ?_, I.back, fun p hp => ?_, I.bnd⟩
  · obtain ⟨g1, g2, g3, g4⟩ := I.edge p hp q e
    refine ⟨g1, g2, g3, ?_⟩
    rcases g4 with y | y | y
    · exact .inl y
    · subst y
      have z := (k p g2 (I.own p hp)).2
      exact .inr (.inr (by omega))
    · exact .inr (.inr y)
  · rcases I.cl p hp with y | y | y
    · exact .inl y
    · subst y
      exact .inr (.inr k)
    · exact .inr (.inr y)
theorem SpInv.start {ks : List Cl} (nd : ks.Nodup) (h1 : ∀ p, pr p ≤ 1) (hm : ∀ p, p ∈ ks ↔ p ∈ firstL R C h ∧ pass p) : SpInv R C pass pr h ks pr (fun _ => none) ks (fun _ => False) := by
  refine ⟨nd, fun p hp => ((hm p).mp hp).2, fun p hp => hp, fun p hp ho => ⟨(hm p).mpr ⟨hp, ho⟩, Nat.le_refl _⟩, fun p hp _ => ⟨((hm p).mp hp).1, rfl⟩, fun p hp q e => (nomatch e), fun p hp => ⟨_, .stop rfl⟩, fun p hp => .inl hp, fun p hp => ?_⟩
  have := List.length_pos_of_mem hp
  have := h1 p
  omega
theorem BackA.link {A : Cl → Option Cl} {c : Cl} {w : List Cl} (b : BackA A c w) : ∀ (i : Nat) (x y : Cl), w[i]? = some x → w[i + 1]? = some y → A x = some y := by
  induction b with
  | stop e => intro i x y h1 h2; simp at h2
  | @more c b w e b' ih =>
    intro i x y h1 h2
    cases i with
    | zero =>
      obtain ⟨r, rfl⟩ := b'.head
      simp at h1 h2
      subst h1 h2
      exact e
    | succ i => exact ih i x y (by simpa using h1) (by simpa using h2)
theorem BackA.last {A : Cl → Option Cl} {c x : Cl} {w : List Cl} (b : BackA A c w) (e : w.getLast? = some x) : A x = none := by
  induction b with
  | stop e' => simp at e; subst e; exact e'
  | @more c b w e' b' ih =>
    obtain ⟨r, rfl⟩ := b'.head
    rw [List.getLast?_cons_cons] at e
    exact ih e
theorem SpInv.chain (I : SpInv R C pass pr h ks N A [] (fun _ => False)) (hi : ∀ p, pass p → inB R C p.1 p.2) {c : Cl} {w : List Cl} (b : BackA A c w) (hc : c ∈ ks) (hl : onLast R C h c.1 c.2 = true) : IsChain R C pass h w.reverse := by
  have lw := I.low b hc
  refine ⟨List.pairwise_reverse.mpr (b.nd.imp fun h => Ne.symm h), fun p hp => hi p (I.own p (lw p (List.mem_reverse.mp hp)).1), fun p hp => I.own p (lw p (List.mem_reverse.mp hp)).1, fun i p q h1 h2 => ?_, ?_, ?_⟩
  · have l1 := (List.getElem?_eq_some_iff.mp h1).1
    have l2 := (List.getElem?_eq_some_iff.mp h2).1
    rw [List.length_reverse] at l1 l2
    rw [List.getElem?_reverse l1] at h1
    rw [List.getElem?_reverse l2] at h2
    have e := b.link (w.length - 1 - (i + 1)) q p h2 (by rw [show w.length - 1 - (i + 1) + 1 = w.length - 1 - i by omega]; exact h1)
    exact (I.edge q (lw q (List.mem_of_getElem? h2)).1 p e).2.1
  · obtain ⟨r, e⟩ := b.head
    have ne : w ≠ [] := fun z => by rw [z] at e; cases e
    have g := List.getLast?_eq_some_getLast ne
    exact ⟨w.getLast ne, by rw [List.head?_reverse, g], (I.root _ (lw _ (List.getLast_mem ne)).1 (b.last g)).1⟩
  · obtain ⟨r, e⟩ := b.head
    exact ⟨c, by rw [List.getLast?_reverse, e]; rfl, hl⟩
end
end Bd

set_option maxHeartbeats 4000000
namespace Flood
theorem lk_snoc {α : Type} [DecidableEq α] {L : List (α × Option α)} {c x : α} {o : Option α} (h : c ∉ keys L) : lk (L ++ [(c, o)]) x = if x = c then some o else lk L x := by
  by_cases e : x = c
  · subst e
    rw [if_pos rfl]
    exact lk_new h
  · rw [if_neg e]
    unfold lk
    rw [List.find?_append]
    cases q : L.find? fun p => decide (p.1 = x) with
    | some y => rfl
    | none => simp [Ne.symm e]
theorem Fl.own {α : Type} [DecidableEq α] {S O : α → Prop} {N : α → α → Prop} {L : List (α × Option α)} (F : Fl S O N L) : ∀ c ∈ keys L, O c := by
  induction F with
  | nil => intro c h; simp [keys] at h
  | start _ _ ho _ ih => intro c h; rw [keys_snoc] at h; rcases List.mem_append.mp h with h | h
                         · exact ih c h
                         · rw [List.mem_singleton.mp h]; exact ho
  | step _ _ _ ho _ ih => intro c h; rw [keys_snoc] at h; rcases List.mem_append.mp h with h | h
                          · exact ih c h
                          · rw [List.mem_singleton.mp h]; exact ho
theorem len_keys {α : Type} (L : List (α × Option α)) : (keys L).length = L.length := by unfold keys; rw [List.length_map]
end Flood
namespace Bd
open PySem L2
/-- all but what stands at a is as it was -/
def But (a : Addr) (H H' : Hp) : Prop := ∀ b o, H b = some o → b ≠ a → H' b = some o
theorem But.upd {H : Hp} {a : Addr} {o : HO} : But a H (upd H a o) := fun b u e n => by rw [upd_ne n]; exact e
theorem But.cell {H H' : Hp} {a b : Addr} {r c : Int} {o : HO} (h : But a H H') (ha : H a = some o) (no : ∀ xs, o ≠ .tup xs) (hc : CellAt H b r c) : CellAt H' b r c :=
  h b _ hc fun z => by
    have e : H b = some (.tup [.int r, .int c]) := hc
    rw [z, ha] at e
    exact no _ (Option.some.inj e)
theorem But.cells {H H' : Hp} {a : Addr} {as : List Addr} {cs : List (Int × Int)} {o : HO} (h : But a H H') (ha : H a = some o) (no : ∀ xs, o ≠ .tup xs) (hc : CellsAt H as cs) : CellsAt H' as cs := Paired.mapP hc fun _ _ q => h.cell ha no q
theorem But.same {H0 H H' : Hp} {a : Addr} (h : But a H H') (s : Same H0 H) (n : H0 a = none) : Same H0 H' := fun b o e => h b o (s b o e) (ne_of_none e n)
theorem But.trans {H H' H'' : Hp} {a : Addr} (h : But a H H') (h' : But a H' H'') : But a H H'' := fun b o e n => h' b o (h b o e n) n
theorem AheadAt.but {H H' : Hp} {a l : Addr} {L : List (Cl × Option Cl)} {o : HO} (h : AheadAt H a L) (k : But l H H') (hl : H l = some o) (no : ∀ xs, o ≠ .tup xs) (n : a ≠ l) : AheadAt H' a L := by
  obtain ⟨kvs, h1, h2, h3⟩ := h
  refine ⟨kvs, k _ _ h1 n, h2, fun r c => ?_⟩
  have q := h3 r c
  cases e : Flood.lk L (r, c) with
  | none => rw [e] at q; exact q
  | some o' =>
    cases o' with
    | none => rw [e] at q; exact q
    | some p =>
      rw [e] at q
      obtain ⟨b, q1, q2⟩ := q
      exact ⟨b, q1, k.cell hl no q2⟩
theorem lk_notin {L : List (Cl × Option Cl)} {p : Cl} (n : p ∉ Flood.keys L) : Flood.lk L p = none := by
  unfold Flood.lk
  rw [Flood.lk_none n]
  rfl
theorem AheadAt.get {H : Hp} {a b : Addr} {L : List (Cl × Option Cl)} {p : Cl} (h : AheadAt H a L) (hc : CellAt H b p.1 p.2) : ∃ o, DGet H a (.ref b) o ∧ o.isSome = decide (p ∈ Flood.keys L) := by
  obtain ⟨kvs, h1, h2, h3⟩ := h
  refine ⟨_, DGet.t (k := keyC p.1 p.2) h1 hc, ?_⟩
  have q := h3 p.1 p.2
  by_cases m : p ∈ Flood.keys L
  · obtain ⟨o, e⟩ := Flood.lk_some m
    rw [decide_eq_true m]
    cases o with
    | none => rw [show ((p.1, p.2) : Cl) = p from rfl, e] at q; rw [q]; rfl
    | some x =>
      rw [show ((p.1, p.2) : Cl) = p from rfl, e] at q
      obtain ⟨b', q1, _⟩ := q
      rw [q1]
      rfl
  · rw [show ((p.1, p.2) : Cl) = p from rfl, lk_notin m] at q
    rw [decide_eq_false m, q]
    rfl
theorem AheadAt.put {H : Hp} {a : Addr} {L : List (Cl × Option Cl)} {p : Cl} {o : Option Cl} {v : V} (h : AheadAt H a L) (n : p ∉ Flood.keys L) (hv : (o = none ∧ v = .non) ∨ ∃ b q, o = some q ∧ v = .ref b ∧ CellAt H b q.1 q.2) :
    ∃ kvs, H a = some (.dT kvs) ∧ kvs.length = L.length ∧ AheadAt (upd H a (.dT (putK kvs (keyC p.1 p.2) v))) a (L ++ [(p, o)]) := by
  obtain ⟨kvs, h1, h2, h3⟩ := h
  have z := h3 p.1 p.2
  rw [show ((p.1, p.2) : Cl) = p from rfl, lk_notin n] at z
  have kp := But.upd (H := H) (a := a) (o := .dT (putK kvs (keyC p.1 p.2) v))
  refine ⟨kvs, h1, h2, putK kvs (keyC p.1 p.2) v, upd_same, by rw [putK_new _ z, List.length_append, List.length_append, h2]; rfl, fun r c => ?_⟩
  rw [Flood.lk_snoc n]
  rw [putK_new _ z, valV_snoc _ _ _ _ z]
  rw [putK_new _ z] at kp
  by_cases e : ((r, c) : Cl) = p
  · subst e
    rw [if_pos rfl, if_pos rfl]
    rcases hv with ⟨rfl, rfl⟩ | ⟨b, q, rfl, rfl, hb⟩
    · rfl
    · exact ⟨b, rfl, kp.cell h1 (fun _ z => nomatch z) hb⟩
  · have e2 : ¬ keyC r c = keyC p.1 p.2 := fun z => e (by obtain ⟨z1, z2⟩ := keyC_inj z; rw [z1, z2])
    rw [if_neg e, if_neg e2]
    have q := h3 r c
    cases e : Flood.lk L (r, c) with
    | none => rw [e] at q; exact q
    | some o' =>
      cases o' with
      | none => rw [e] at q; exact q
      | some p =>
        rw [e] at q
        obtain ⟨b, q1, q2⟩ := q
        exact ⟨b, q1, kp.cell h1 (fun _ z => nomatch z) q2⟩
/-- a flood under way: the dict of the cell ahead at a, the waiting ones at l -/
structure ChInv (R C : Nat) (O : Cl → Prop) (h : Int) (H H2 : Hp) (a l : Addr) (L : List (Cl × Option Cl)) (ws : List Cl) (ex : Cl → Prop) : Prop where
  na : H a = none
  nl : H l = none
  sm : Same H H2
  ah : AheadAt H2 a L
  wl : LCells H2 l ws
  fl : Flood.Fl (fun x => x ∈ firstL R C h) O (fun x y => y ∈ nearL R C x.1 x.2) L
  sub : ∀ p ∈ ws, p ∈ Flood.keys L
  st : ∀ p ∈ firstL R C h, O p → p ∈ Flood.keys L
  cl : ∀ p ∈ Flood.keys L, p ∈ ws ∨ ex p ∨ (onLast R C h p.1 p.2 = false ∧ ∀ q ∈ nearL R C p.1 p.2, O q → q ∈ Flood.keys L)
section
variable {R C : Nat} {O : Cl → Prop} {h : Int} {H H2 H3 : Hp} {a l : Addr} {L : List (Cl × Option Cl)} {ws : List Cl} {ex : Cl → Prop}
theorem ChInv.mono (I : ChInv R C O h H H2 a l L ws ex) (s : Same H2 H3) : ChInv R C O h H H3 a l L ws ex :=
  ⟨I.na, I.nl, I.sm.trans s, I.ah.mono s, I.wl.mono s, I.fl, I.sub, I.st, I.cl⟩
theorem ChInv.nal (I : ChInv R C O h H H2 a l L ws ex) : a ≠ l := by
  obtain ⟨kvs, h1, _⟩ := I.ah
  obtain ⟨as, h2, _⟩ := I.wl
  exact ne_of h1 h2 (fun z => nomatch z)
theorem ChInv.len (I : ChInv R C O h H H2 a l L ws ex) (hi : ∀ p, O p → inB R C p.1 p.2) : L.length ≤ R * C := by
  rw [← Flood.len_keys]
  exact len_in I.fl.nd fun p hp => hi p (I.fl.own p hp)
theorem ChInv.done {c : Cl} (I : ChInv R C O h H H2 a l L ws (fun x => x = c)) (hl : onLast R C h c.1 c.2 = false) (hn : ∀ q ∈ nearL R C c.1 c.2, O q → q ∈ Flood.keys L) : ChInv R C O h H H2 a l L ws (fun _ => False) := by
  refine ⟨I.na, I.nl, I.sm, I.ah, I.wl, I.fl, I.sub, I.st, fun p hp => ?_⟩
  rcases I.cl p hp with z | z | z
  · exact .inl z
  · subst z
    exact .inr (.inr ⟨hl, hn⟩)
  · exact .inr (.inr z)
theorem ChInv.pop {c : Cl} {xs : List V} (I : ChInv R C O h H H2 a l L (ws ++ [c]) (fun _ => False)) (e : H2 l = some (.lst xs)) :
    ∃ b, xs[xs.length - 1]? = some (.ref b) ∧ CellAt (upd H2 l (.lst xs.dropLast)) b c.1 c.2 ∧ ChInv R C O h H (upd H2 l (.lst xs.dropLast)) a l L ws (fun x => x = c) := by
  obtain ⟨as, h1, h2⟩ := I.wl
  have ex : xs = as.map V.ref := by rw [h1] at e; injection Option.some.inj e with e; exact e.symm
  have hl := h2.len
  rw [List.length_append, List.length_singleton] at hl
  have ne : as ≠ [] := fun z => by rw [z] at hl; simp at hl
  have e2 : as = as.dropLast ++ [as.getLast ne] := (List.dropLast_concat_getLast ne).symm
  have kp := But.upd (H := H2) (a := l) (o := .lst xs.dropLast)
  have no : ∀ ys, HO.lst xs ≠ .tup ys := fun _ z => nomatch z
  have sp : ∀ {as : List Addr} {b : Addr} {cs : List Cl} {c : Cl}, CellsAt H2 (as ++ [b]) (cs ++ [c]) → CellsAt H2 as cs ∧ CellAt H2 b c.1 c.2 := by
    intro as
    induction as with
    | nil =>
      intro b cs c h
      cases cs with
      | nil => cases h with | cons q t => exact ⟨.nil, q⟩
      | cons x r =>
        have := h.len
        simp at this
    | cons y as ih =>
      intro b cs c h
      cases cs with
      | nil =>
        have := h.len
        simp at this
      | cons x r =>
        cases h with
        | cons q t =>
          obtain ⟨t1, t2⟩ := ih t
          exact ⟨.cons q t1, t2⟩
  rw [e2] at h2
  obtain ⟨h3, h4⟩ := sp h2
  refine ⟨as.getLast ne, ?_, kp.cell e no h4, I.na, I.nl, kp.same I.sm I.nl, I.ah.but kp e no I.nal, ⟨as.dropLast, by rw [upd_same, ex, List.map_dropLast], kp.cells e no h3⟩, I.fl, fun p hp => I.sub p (List.mem_append_left _ hp), I.st, fun p hp => ?_⟩
  · rw [ex, List.length_map, List.getElem?_map, ← List.getLast?_eq_getElem?, List.getLast?_eq_some_getLast ne]
    rfl
  · rcases I.cl p hp with z | z | z
    · rcases List.mem_append.mp z with z | z
      · exact .inl z
      · exact .inr (.inl (List.mem_singleton.mp z))
    · exact z.elim
    · exact .inr (.inr z)
theorem ChInv.push {c q : Cl} {b t : Addr} {as : List Addr} (I : ChInv R C O h H H2 a l L ws ex) (hb : CellAt H2 b c.1 c.2) (ht : CellAt H2 t q.1 q.2) (hc : c ∈ Flood.keys L) (hq : q ∈ nearL R C c.1 c.2) (ho : O q) (n : q ∉ Flood.keys L) (e : H2 l = some (.lst (as.map V.ref))) (ea : CellsAt H2 as ws) :
    ∃ kvs, H2 a = some (.dT kvs) ∧ kvs.length = L.length ∧ ChInv R C O h H (upd (upd H2 a (.dT (putK kvs (keyC q.1 q.2) (.ref b)))) l (.lst (as.map V.ref ++ [.ref t]))) a l (L ++ [(q, some c)]) (ws ++ [q]) ex ∧
      But l (upd H2 a (.dT (putK kvs (keyC q.1 q.2) (.ref b)))) (upd (upd H2 a (.dT (putK kvs (keyC q.1 q.2) (.ref b)))) l (.lst (as.map V.ref ++ [.ref t]))) ∧ But a H2 (upd H2 a (.dT (putK kvs (keyC q.1 q.2) (.ref b)))) := by
  obtain ⟨kvs, h1, h2, h3⟩ := I.ah.put (o := some c) (v := .ref b) n (.inr ⟨b, c, rfl, rfl, hb⟩)
  have k1 := But.upd (H := H2) (a := a) (o := .dT (putK kvs (keyC q.1 q.2) (.ref b)))
  have k2 := But.upd (H := upd H2 a (.dT (putK kvs (keyC q.1 q.2) (.ref b)))) (a := l) (o := .lst (as.map V.ref ++ [.ref t]))
  have no : ∀ ys, HO.lst (as.map V.ref) ≠ .tup ys := fun _ z => nomatch z
  have nd : ∀ ys, HO.dT kvs ≠ .tup ys := fun _ z => nomatch z
  have el : (upd H2 a (.dT (putK kvs (keyC q.1 q.2) (.ref b)))) l = some (.lst (as.map V.ref)) := k1 l _ e (Ne.symm I.nal)
  refine ⟨kvs, h1, h2, ⟨I.na, I.nl, k2.same (k1.same I.sm I.na) I.nl, h3.but k2 el no I.nal, ⟨as ++ [t], by rw [upd_same, List.map_append]; rfl, ?_⟩, I.fl.step hc hq ho n, fun p hp => ?_, fun p hp hO => ?_, fun p hp => ?_⟩, k2, k1⟩
  · exact k2.cells el no (k1.cells h1 nd (ea.append (.cons ht .nil)))
  · rw [Flood.keys_snoc]
    rcases List.mem_append.mp hp with z | z
    · exact List.mem_append_left _ (I.sub p z)
    · exact List.mem_append_right _ z
  · rw [Flood.keys_snoc]
    exact List.mem_append_left _ (I.st p hp hO)
  · rw [Flood.keys_snoc] at hp ⊢
    rcases List.mem_append.mp hp with z | z
    · rcases I.cl p z with y | y | y
      · exact .inl (List.mem_append_left _ y)
      · exact .inr (.inl y)
      · exact .inr (.inr ⟨y.1, fun q' hq' ho' => List.mem_append_left _ (y.2 q' hq' ho')⟩)
    · exact .inl (List.mem_append_right _ z)
end
end Bd

set_option maxHeartbeats 4000000
namespace L2
open PySem PySem.Spec PyProof.Rows
section
variable {prog : Program} {w : World} {dA : Addr}
end
section
variable {X : Cx}
end
end L2
namespace Bd
open PySem L2
def kvD (ks : List Cl) (f : Cl → V) : List (List Key × V) := ks.map fun p => (keyC p.1 p.2, f p)
theorem keyC_cl {p q : Cl} (h : keyC p.1 p.2 = keyC q.1 q.2) : p = q := by
  obtain ⟨h1, h2⟩ := keyC_inj h
  obtain ⟨a, b⟩ := p
  obtain ⟨a', b'⟩ := q
  simp only at h1 h2
  rw [h1, h2]
theorem val_kvD (ks : List Cl) (f : Cl → V) (p : Cl) : valV (kvD ks f) (keyC p.1 p.2) = if p ∈ ks then some (f p) else none := by
  unfold kvD
  by_cases m : p ∈ ks
  · rw [if_pos m]
    exact valV_map_mem (fun p : Cl => keyC p.1 p.2) f p ks m (fun q _ e => keyC_cl e)
  · rw [if_neg m]
    exact valV_map_none (fun p : Cl => keyC p.1 p.2) f _ ks (fun q hq e => m (by rw [← keyC_cl e]; exact hq))
theorem put_kvD (ks : List Cl) (f : Cl → V) (q : Cl) (v : V) : putK (kvD ks f) (keyC q.1 q.2) v = kvD (putL ks q) (setF f q v) := by
  unfold putL
  by_cases m : q ∈ ks
  · rw [if_pos m]
    exact putK_map (fun p : Cl => keyC p.1 p.2) f (setF f q v) q v ks m (fun p _ e => keyC_cl e) (setF_same _ _ _) (fun p _ n => setF_ne _ _ n)
  · rw [if_neg m, putK_new _ (by rw [val_kvD, if_neg m])]
    unfold kvD
    rw [List.map_append, List.map_cons, List.map_nil, setF_same]
    congr 1
    refine List.map_congr_left fun p hp => ?_
    rw [setF_ne _ _ (fun e => m (by rw [← e]; exact hp))]
/-- a dict at o: the cells ks, each with f -/
def DD (H : Hp) (o : Addr) (ks : List Cl) (f : Cl → V) : Prop := H o = some (.dT (kvD ks f)) ∧ ks.Nodup
theorem DD.mono {H H' : Hp} {o : Addr} {ks : List Cl} {f : Cl → V} (h : DD H o ks f) (s : Same H H') : DD H' o ks f := ⟨s _ _ h.1, h.2⟩
theorem DD.but {H H' : Hp} {o a : Addr} {ks : List Cl} {f : Cl → V} (h : DD H o ks f) (k : But a H H') (n : o ≠ a) : DD H' o ks f := ⟨k _ _ h.1 n, h.2⟩
theorem DD.get {H : Hp} {o b : Addr} {ks : List Cl} {f : Cl → V} {p : Cl} (h : DD H o ks f) (hc : CellAt H b p.1 p.2) : DGet H o (.ref b) (if p ∈ ks then some (f p) else none) := by
  rw [← val_kvD]
  exact DGet.t h.1 hc
theorem DD.put {H : Hp} {o b : Addr} {ks : List Cl} {f : Cl → V} {p : Cl} (v : V) (h : DD H o ks f) (hc : CellAt H b p.1 p.2) (hz : ks.length ≤ 999) : DPut H o (.ref b) v (upd H o (.dT (kvD (putL ks p) (setF f p v)))) := by
  rw [← put_kvD]
  exact DPut.t (k := keyC p.1 p.2) h.1 hc (by unfold kvD; rw [List.length_map]; exact small1000 (by omega))
theorem DD.new {H : Hp} {o : Addr} {ks : List Cl} {f : Cl → V} (nd : ks.Nodup) : DD (upd H o (.dT (kvD ks f))) o ks f := ⟨upd_same, nd⟩
theorem kvD_congr {ks : List Cl} {f g : Cl → V} (h : ∀ p ∈ ks, f p = g p) : kvD ks f = kvD ks g := List.map_congr_left fun p hp => by rw [h p hp]
/-- the law's own dict of owners -/
def nat2 (p : Cl) : Nat × Nat := (p.1.toNat, p.2.toNat)
structure OD (H : Hp) (o : Addr) (R C : Nat) (own : Nat × Nat → Int) (ks : List Cl) : Prop where
  dd : DD H o ks fun p => V.int (own (nat2 p))
  mem : ∀ p, p ∈ ks ↔ inB R C p.1 p.2 ∧ own (nat2 p) ≠ 0
theorem OD.mono {H H' : Hp} {o : Addr} {R C : Nat} {own : Nat × Nat → Int} {ks : List Cl} (h : OD H o R C own ks) (s : Same H H') : OD H' o R C own ks := ⟨h.dd.mono s, h.mem⟩
theorem OD.but {H H' : Hp} {o a : Addr} {R C : Nat} {own : Nat × Nat → Int} {ks : List Cl} (h : OD H o R C own ks) (k : But a H H') (n : o ≠ a) : OD H' o R C own ks := ⟨h.dd.but k n, h.mem⟩
theorem OD.len {H : Hp} {o : Addr} {R C : Nat} {own : Nat × Nat → Int} {ks : List Cl} (h : OD H o R C own ks) : ks.length ≤ R * C := len_in h.dd.2 fun p hp => ((h.mem p).mp hp).1
theorem setO_at (own : Nat × Nat → Int) (p : Cl) (v : Int) (x : Nat × Nat) : setO own p.1 p.2 v x = if x = nat2 p then v else own x := rfl
theorem OD.put {H : Hp} {o : Addr} {R C : Nat} {own : Nat × Nat → Int} {ks : List Cl} {p : Cl} {v : Int} (h : OD H o R C own ks) (hb : inB R C p.1 p.2) (hv : v ≠ 0) : OD (upd H o (.dT (kvD (putL ks p) (setF (fun p => V.int (own (nat2 p))) p (V.int v))))) o R C (setO own p.1 p.2 v) (putL ks p) := by
  have inj : ∀ q, inB R C q.1 q.2 → (nat2 q = nat2 p ↔ q = p) := fun q hq => by
    have := toNat_inj hb hq
    unfold nat2
    rw [this]
    obtain ⟨a, b⟩ := q
    obtain ⟨a', b'⟩ := p
    simp
  have inK : ∀ q, q ∈ putL ks p → inB R C q.1 q.2 := fun q hq => by
    rcases mem_putL.mp hq with z | rfl
    · exact ((h.mem q).mp z).1
    · exact hb
  refine ⟨⟨?_, putL_nd h.dd.2⟩, fun q => ?_⟩
  · rw [upd_same]
    congr 2
    refine kvD_congr fun q hq => ?_
    show setF (fun p => V.int (own (nat2 p))) p (V.int v) q = V.int (setO own p.1 p.2 v (nat2 q))
    rw [setO_at]
    by_cases e : q = p
    · subst e
      rw [setF_same, if_pos rfl]
    · rw [setF_ne _ _ e, if_neg (fun z => e ((inj q (inK q hq)).mp z))]
  · rw [mem_putL]
    rw [setO_at]
    constructor
    · rintro (z | rfl)
      · have g := (h.mem q).mp z
        refine ⟨g.1, ?_⟩
        by_cases e : nat2 q = nat2 p
        · rw [if_pos e]; exact hv
        · rw [if_neg e]; exact g.2
      · exact ⟨hb, by rw [if_pos rfl]; exact hv⟩
    · rintro ⟨h1, h2⟩
      by_cases e : nat2 q = nat2 p
      · exact .inr ((inj q h1).mp e)
      · rw [if_neg e] at h2
        exact .inl ((h.mem q).mpr ⟨h1, h2⟩)
end Bd
namespace Bd
open PySem L2
/-- owners[r, c] = v -/
theorem OD.step {H0 H : Hp} {o t : Addr} {R C : Nat} {own : Nat × Nat → Int} {ks : List Cl} {r c v : Int} (h : OD H o R C own ks) (s : Same H0 H) (no : H0 o = none) (nt : H t = none) (hb : inB R C r c) (hv : v ≠ 0) (hR : R ≤ 10) (hC : C ≤ 10) :
    ∃ H5, DPut (upd H t (.tup [.int r, .int c])) o (.ref t) (.int v) H5 ∧ OD H5 o R C (setO own r c v) (putL ks (r, c)) ∧ Same H0 H5 := by
  have st : Same H (upd H t (.tup [.int r, .int c])) := Same.upd nt
  have h1 := h.mono st
  have hc : CellAt (upd H t (.tup [.int r, .int c])) t r c := upd_same
  have hz : ks.length ≤ 100 := Nat.le_trans h.len (Nat.mul_le_mul hR hC)
  exact ⟨_, h1.dd.put (p := (r, c)) (.int v) hc (by omega), h1.put (p := (r, c)) hb hv, But.upd.same (s.trans st) no⟩
theorem setO_3 {own : Nat × Nat → Int} {r c v : Int} (h : ∀ p, own p = 0 ∨ own p = 1 ∨ own p = 2) (hv : v = 0 ∨ v = 1 ∨ v = 2) : ∀ p, setO own r c v p = 0 ∨ setO own r c v p = 1 ∨ setO own r c v p = 2 := fun p => by
  unfold setO
  split
  · exact hv
  · exact h p
theorem OD.none {H : Hp} {o : Addr} {R C : Nat} : OD (upd H o (.dT [])) o R C (fun _ => 0) [] := ⟨⟨upd_same, List.nodup_nil⟩, fun p => by simp⟩
end Bd
namespace Bd
open PySem L2
theorem CellsAt.put {H : Hp} : ∀ {as : List Addr} {cs : List Cl} {i : Nat} {p : Cl}, CellsAt H as cs → cs[i]? = some p → ∃ a, as[i]? = some a ∧ CellAt H a p.1 p.2
  | _, _, _, _, .nil, e => by simp at e
  | _, _, 0, _, .cons q _, e => by
    simp at e
    subst e
    exact ⟨_, rfl, q⟩
  | _, _, i + 1, p, .cons _ t, e => by
    obtain ⟨a, h1, h2⟩ := CellsAt.put (i := i) (p := p) t (by simpa using e)
    exact ⟨a, by simpa using h1, h2⟩
end Bd
namespace Bd
end Bd
namespace Bd
open PySem L2
theorem seq_cut {t u : TS} {D : Ends} {σ : St} {H : Hp} (Pp : St → Hp → Prop) (h : ∀ G : St → Hp → Prop, (∀ σ' H', Pp σ' H' → G σ' H') → t { D with nx := G } σ H) (k : ∀ σ' H', Pp σ' H' → u D σ' H') : tSeq t u D σ H := h (u D) k
end Bd
namespace Bd
end Bd

set_option maxHeartbeats 4000000

namespace K13
open PySem L2 Bd
def top (i : Nat) : Stmt := PySem.Challenge.pw_sidechain_k13_boards_read_or_refused.main.body.getD i (.Pass ⟨0, 0, 0, 0⟩)
abbrev sHand : Stmt := top 9
abbrev sLen : Stmt := top 13
abbrev sCellAt : Stmt := top 20
abbrev sWhole : Stmt := top 21
abbrev sOwners : Stmt := top 22
abbrev sSame : Stmt := top 24
abbrev sLaw : Stmt := top 28
abbrev sRead : Stmt := top 16
abbrev sLinesOf : Stmt := top 17
abbrev sReadLine : Stmt := top 18
abbrev sText : Stmt := top 23
abbrev sSignBy : Stmt := top 25
abbrev sSpoiled : Stmt := top 26
abbrev sDue : Stmt := top 27
abbrev sInit : Stmt := inClass (top 12) 0
abbrev sRows : Stmt := inClass (top 12) 1
abbrev sCols : Stmt := inClass (top 12) 2
abbrev sPut : Stmt := inClass (top 12) 3
abbrev sOwner : Stmt := inClass (top 12) 5
abbrev sCheck : Stmt := inClass (top 12) 8
structure Ads where
  CB : Addr
  CE : Addr
  NC : Addr
  NH : Addr
  CT : Addr
  EM : Addr
  NB : Addr
/-- an exception class of the text: how it answers to the six questions -/
structure ExcK (K : PySem.W.Frag) (mg : Str → Option Value) (D : Ads) (x : Str) (C : Addr) (b1 b2 b3 b4 b5 : Bool) : Prop where
  exc : Exc K mg x C
  cls : ExcCls K C
  cd : ∃ cd, PySem.W.clsIn K C = some cd
  q1 : PySem.W.kitOne K (.ref C) (.ref D.NC) = some b1
  q2 : PySem.W.kitOne K (.ref C) (.ref D.NH) = some b2
  q3 : PySem.W.kitOne K (.ref C) (.ref D.CT) = some b3
  q4 : PySem.W.kitOne K (.ref C) (.ref D.EM) = some b4
  q5 : PySem.W.kitOne K (.ref C) (.ref D.NB) = some b5
  q6 : PySem.W.kitOne K (.ref C) (.type "ValueError") = some true
  exm : PySem.W.exmOne K (.ref C) (.ref D.CE) = some true
structure Txt (K : PySem.W.Frag) (mg : Str → Option Value) (D : Ads) : Prop where
  cl : Cls K D.CB
  nH : NoAttr K D.CB "height"
  nW : NoAttr K D.CB "width"
  nO : NoAttr K D.CB "owners"
  mgB : mg "Board" = some (.ref D.CB)
  most : ∃ t, mg "MOST" = some (.int 10 t)
  mgE : mg "BoardError" = some (.ref D.CE)
  xNC : ExcK K mg D "NoCell" D.NC true false false false false
  xNH : ExcK K mg D "NoHand" D.NH false true false false false
  xCT : ExcK K mg D "CellTaken" D.CT false false true false false
  xEM : ExcK K mg D "CellEmpty" D.EM false false false true false
  xNB : Exc K mg "NoBoard" D.NB
  eNB : PySem.W.exmOne K (.ref D.NB) (.ref D.NB) = some true
  len : mg "len" = none
  isi : mg "isinstance" = none
  rng : mg "range" = none
  tInt : mg "int" = none
  tBool : mg "bool" = none
  tList : mg "list" = none
  tTuple : mg "tuple" = none
  tVE : mg "ValueError" = none
  k1 : PySem.W.kitOne K (.type "list") (.type "list") = some true
  k2 : PySem.W.kitOne K (.type "tuple") (.type "tuple") = some true
  k3 : PySem.W.kitOne K (.type "int") (.type "int") = some true
  k4 : PySem.W.kitOne K (.type "int") (.type "bool") = some false
def spLen (D : Ads) : Sp := fun vs H Q E => ∃ n : Int, vs = [.int n] ∧ (1 ≤ n ∧ n ≤ 10 → Q .non H) ∧ (¬ (1 ≤ n ∧ n ≤ 10) → E (.ref D.NB) none H)
def spHand (D : Ads) : Sp := fun vs H Q E => ∃ n : Int, vs = [.int n] ∧ (n = 1 ∨ n = 2 → Q .non H) ∧ (¬ (n = 1 ∨ n = 2) → E (.ref D.NH) none H)
def spInit (D : Ads) : Sp := fun vs H Q E => ∃ (p dx : Addr) (m n : Int), vs = [.ref p, .int m, .int n] ∧ H p = some (.ins D.CB dx []) ∧
  (∀ R C : Nat, m = R → n = C → 1 ≤ R → R ≤ 10 → 1 ≤ C → C ≤ 10 → ∀ d H', H d = none → BoardAt D.CB H' p d R C (fun _ => 0) → (∀ b o, H b = some o → b ≠ p → H' b = some o) → Q .non H') ∧
  (¬ ((1 ≤ m ∧ m ≤ 10) ∧ 1 ≤ n ∧ n ≤ 10) → E (.ref D.NB) none H)
def spCheck (D : Ads) : Sp := fun vs H Q E => ∃ (p d b : Addr) (R C : Nat) (own : Nat × Nat → Int) (r c : Int), vs = [.ref p, .ref b] ∧ BoardAt D.CB H p d R C own ∧ CellAt H b r c ∧
  (inB R C r c → Q .non H) ∧ (¬ inB R C r c → E (.ref D.NC) none H)
def spSize (D : Ads) (f : Nat → Nat → Nat) : Sp := fun vs H Q _ => ∃ (p d : Addr) (R C : Nat) (own : Nat × Nat → Int), vs = [.ref p] ∧ BoardAt D.CB H p d R C own ∧ Q (.int (f R C)) H
def spPut (D : Ads) : Sp := fun vs H Q E => ∃ (p d b : Addr) (R C : Nat) (own : Nat × Nat → Int) (r c h : Int), vs = [.ref p, .ref b, .int h] ∧ R * C ≤ 100 ∧ BoardAt D.CB H p d R C own ∧ CellAt H b r c ∧
  (¬ inB R C r c → E (.ref D.NC) none H) ∧ (inB R C r c → ¬ (h = 1 ∨ h = 2) → E (.ref D.NH) none H) ∧ (inB R C r c → h = 1 ∨ h = 2 → own (r.toNat, c.toNat) ≠ 0 → E (.ref D.CT) none H) ∧
  (inB R C r c → h = 1 ∨ h = 2 → own (r.toNat, c.toNat) = 0 → Q .non (upd H d (.dT (kvsOf R C (setO own r c h)))))
def spOwner (D : Ads) : Sp := fun vs H Q E => ∃ (p d b : Addr) (R C : Nat) (own : Nat × Nat → Int) (r c : Int), vs = [.ref p, .ref b] ∧ BoardAt D.CB H p d R C own ∧ CellAt H b r c ∧
  (¬ inB R C r c → E (.ref D.NC) none H) ∧ (inB R C r c → Q (.int (own (r.toNat, c.toNat))) H)
def spCellAt (K : PySem.W.Frag) : Sp := fun vs H Q _ => ∃ (a : Addr) (ns : List Int) (k : Nat), vs = [.ref a, .int k] ∧ SqL K H a (ns.map V.int) ∧ ns.length ≤ 63 ∧ Q (.int (ns.getD k 0)) H
def spWhole : Sp := fun vs H Q _ => ∃ i : Int, vs = [.int i] ∧ Q (.bl true) H
def spLaw (K : PySem.W.Frag) : Sp := fun vs H Q _ => ∃ (a : Addr) (ns : List Int), vs = [.ref a] ∧ SqL K H a (ns.map V.int) ∧ ns.length ≤ 63 ∧ ∀ H', Q (.bl true) H'
section
variable {P : Program} {w : World} {K : PySem.W.Frag} {mg : Str → Option Value} {base : Heap} {D : Ads}
theorem scLen : FnScope ["number"] ["number"] (defScope sLen) := ⟨rfl, rfl, rfl, by decide +kernel, rfl, by decide +kernel, by decide +kernel⟩
theorem ok_len {f : Addr} {fd : FuncData} (F : Fun K "check_length" "check_length" sLen f fd) (T : Txt K mg D) : FnOk P w K mg base (CX1 P w) 1 f fd ["number"] (spLen D) := by
  refine F.ok1 scLen (fun vs H Q E h => ?_) (fun cdv A outer s H vs Q E hr h => ?_)
  · obtain ⟨n, rfl, _⟩ := h
    rfl
  · obtain ⟨n, rfl, k1, k2⟩ := h
    obtain ⟨tm, hm⟩ := T.most
    refine ⟨_, pss_one (ps_if (PW.pt (pw_or (pt_cmpR op_lt (pv 0) pe_int (nomark _)) (pw_or1 (pt_cmpR op_gt (pv 0) (pe_glob (v := .int 10) rfl hm ⟨_, rfl⟩) (nomark _))))) (pss_one (ps_raise hr.hd T.xNB rfl)) pss_nil), ?_⟩
    refine ⟨_, rfl, _, _, rfl, rfl, _, rfl, ite2 (fun h => ?_) (fun h => ?_)⟩
    · refine iteT (k2 ?_)
      simp only [decide_eq_true_eq] at h
      omega
    · refine ⟨_, rfl, _, _, rfl, rfl, _, rfl, ite2 (fun h2 => ?_) (fun h2 => ?_)⟩
      · simp only [decide_eq_true_eq] at h h2
        exact k2 (by omega)
      · simp only [decide_eq_true_eq] at h h2
        exact k1 (by omega)
theorem scHand : FnScope ["hand"] ["hand"] (defScope sHand) := ⟨rfl, rfl, rfl, by decide +kernel, rfl, by decide +kernel, by decide +kernel⟩
theorem ok_hand {f : Addr} {fd : FuncData} (F : Fun K "check_hand" "check_hand" sHand f fd) (T : Txt K mg D) : FnOk P w K mg base (CX1 P w) 1 f fd ["hand"] (spHand D) := by
  refine F.ok1 scHand (fun vs H Q E h => ?_) (fun cdv A outer s H vs Q E hr h => ?_)
  · obtain ⟨n, rfl, _⟩ := h
    rfl
  · obtain ⟨n, rfl, k1, k2⟩ := h
    refine ⟨_, pss_one (ps_if (PW.pt (pw_and (pt_cmpR op_ne (pv 0) pe_int (nomark _)) (pw_and1 (pt_cmpR op_ne (pv 0) pe_int (nomark _))))) (pss_one (ps_raise hr.hd T.xNH.exc rfl)) pss_nil), ?_⟩
    refine ⟨_, rfl, rfl, _, rfl, ite2 (fun h => ?_) (fun h => ?_)⟩
    · refine ⟨_, rfl, rfl, _, rfl, ite2 (fun h2 => ?_) (fun h2 => ?_)⟩
      · exact k2 (by simp at h h2; omega)
      · exact k1 (by simp at h h2; omega)
    · refine iteF ?_
      exact k1 (by simp at h; omega)
theorem scCheck : FnScope ["self", "cell"] ["self", "cell"] (defScope sCheck) := ⟨rfl, rfl, rfl, by decide +kernel, rfl, by decide +kernel, by decide +kernel⟩
theorem ok_check {f : Addr} {fd : FuncData} (F : Fun K "check_cell" "Board.check_cell" sCheck f fd) (T : Txt K mg D) : FnOk P w K mg base (CX1 P w) 1 f fd ["self", "cell"] (spCheck D) := by
  refine F.ok1 scCheck (fun vs H Q E h => ?_) (fun cdv A outer s H vs Q E hr h => ?_)
  · obtain ⟨p, d, b, R, C, own, r, c, rfl, _⟩ := h
    rfl
  · obtain ⟨p, d, b, R, C, own, r, c, rfl, B, hc, k1, k2⟩ := h
    have hu := hu_of hr
    obtain ⟨dx, h1⟩ := B.ob
    refine ⟨_, pss_one (ps_if (pt_cmp (pc_dnotin hu (pv 1) (pe_fld (pv 0) rfl))) (pss_one (ps_raise hr.hd T.xNC.exc rfl)) pss_nil), ?_⟩
    refine ⟨_, rfl, _, rfl, p, D.CB, dx, _, _, rfl, h1, T.cl, T.nO, bflds_o _ _ _, d, _, rfl, cell_get B hc, _, rfl, ?_⟩
    by_cases hb : inB R C r c
    · rw [if_pos hb]
      refine iteF ?_
      exact k1 hb
    · rw [if_neg hb]
      refine iteT ?_
      exact k2 hb
theorem scRows : FnScope ["self"] ["self"] (defScope sRows) := ⟨rfl, rfl, rfl, by decide +kernel, rfl, by decide +kernel, by decide +kernel⟩
theorem ok_rows {f : Addr} {fd : FuncData} (F : Fun K "rows" "Board.rows" sRows f fd) (T : Txt K mg D) : FnOk P w K mg base (CX1 P w) 1 f fd ["self"] (spSize D fun R _ => R) := by
  refine F.ok0 scRows (fun vs H Q E h => ?_) (fun cdv A outer s H vs Q E hr h => ?_)
  · obtain ⟨p, d, R, C, own, rfl, _⟩ := h
    rfl
  · obtain ⟨p, d, R, C, own, rfl, B, k⟩ := h
    obtain ⟨dx, h1⟩ := B.ob
    refine ⟨_, pss_one (ps_ret (pe_fld (pv 0) rfl)), ?_⟩
    exact ⟨_, rfl, p, D.CB, dx, _, _, rfl, h1, T.cl, T.nH, bflds_h _ _ _, k⟩
theorem scCols : FnScope ["self"] ["self"] (defScope sCols) := ⟨rfl, rfl, rfl, by decide +kernel, rfl, by decide +kernel, by decide +kernel⟩
theorem ok_cols {f : Addr} {fd : FuncData} (F : Fun K "columns" "Board.columns" sCols f fd) (T : Txt K mg D) : FnOk P w K mg base (CX1 P w) 1 f fd ["self"] (spSize D fun _ C => C) := by
  refine F.ok0 scCols (fun vs H Q E h => ?_) (fun cdv A outer s H vs Q E hr h => ?_)
  · obtain ⟨p, d, R, C, own, rfl, _⟩ := h
    rfl
  · obtain ⟨p, d, R, C, own, rfl, B, k⟩ := h
    obtain ⟨dx, h1⟩ := B.ob
    refine ⟨_, pss_one (ps_ret (pe_fld (pv 0) rfl)), ?_⟩
    exact ⟨_, rfl, p, D.CB, dx, _, _, rfl, h1, T.cl, T.nW, bflds_w _ _ _, k⟩
theorem scOwner : FnScope ["self", "cell"] ["self", "cell"] (defScope sOwner) := ⟨rfl, rfl, rfl, by decide +kernel, rfl, by decide +kernel, by decide +kernel⟩
theorem ok_owner {f fC : Addr} {fd fdC : FuncData} (F : Fun K "owner" "Board.owner" sOwner f fd) (T : Txt K mg D) (GC : FnOk P w K mg base (CX1 P w) 1 fC fdC ["self", "cell"] (spCheck D)) (bC : Binds K fdC ["self", "cell"] []) (mC : Meth K D.CB "check_cell" fC) :
    FnOk P w K mg base (CX1 P w) 2 f fd ["self", "cell"] (spOwner D) := by
  refine F.ok1 scOwner (fun vs H Q E h => ?_) (fun cdv A outer s H vs Q E hr h => ?_)
  · obtain ⟨p, d, b, R, C, own, r, c, rfl, _⟩ := h
    rfl
  · obtain ⟨p, d, b, R, C, own, r, c, rfl, B, hc, k1, k2⟩ := h
    have hu := hu_of hr
    obtain ⟨dx, h1⟩ := B.ob
    refine ⟨_, pss_cons (ps_expr (pe_meth (pv 0) T.cl mC GC hr bC .nil pass1 (pa_cons (pv 1) pa_nil))) (pss_one (ps_ret (pe_dget hu (pe_fld (pv 0) rfl) (pv 1) (fun _ _ => rfl)))), ?_⟩
    refine ⟨_, rfl, p, dx, _, rfl, h1, bflds_no _ _ _ (by decide +kernel) (by decide +kernel) (by decide +kernel), _, rfl, p, d, b, R, C, own, r, c, rfl, B, hc, fun hb => ?_, k1⟩
    have g := cell_get B hc
    rw [if_pos hb] at g
    exact ⟨_, rfl, p, D.CB, dx, _, _, rfl, h1, T.cl, T.nO, bflds_o _ _ _, _, rfl, d, _, rfl, g, k2 hb⟩
theorem scPut : FnScope ["self", "cell", "hand"] ["self", "cell", "hand"] (defScope sPut) := ⟨rfl, rfl, rfl, by decide +kernel, rfl, by decide +kernel, by decide +kernel⟩
theorem ok_put {f fC fH : Addr} {fd fdC fdH : FuncData} (F : Fun K "put" "Board.put" sPut f fd) (T : Txt K mg D) (GC : FnOk P w K mg base (CX1 P w) 1 fC fdC ["self", "cell"] (spCheck D)) (bC : Binds K fdC ["self", "cell"] []) (mC : Meth K D.CB "check_cell" fC)
    (GH : FnOk P w K mg base (CX1 P w) 1 fH fdH ["hand"] (spHand D)) (kH : PySem.W.keepIn K (.ref fH) = true) (bH : Binds K fdH ["hand"] []) (mH : mg "check_hand" = some (.ref fH)) : FnOk P w K mg base (CX1 P w) 2 f fd ["self", "cell", "hand"] (spPut D) := by
  refine F.ok1 scPut (fun vs H Q E h => ?_) (fun cdv A outer s H vs Q E hr h => ?_)
  · obtain ⟨p, d, b, R, C, own, r, c, hd, rfl, _⟩ := h
    rfl
  · obtain ⟨p, d, b, R, C, own, r, c, hd, rfl, hz, B, hc, k1, k2, k3, k4⟩ := h
    have hu := hu_of hr
    obtain ⟨dx, h1⟩ := B.ob
    refine ⟨_, pss_cons (ps_expr (pe_meth (pv 0) T.cl mC GC hr bC .nil pass1 (pa_cons (pv 1) pa_nil)))
      (pss_cons (ps_expr (pe_call GH hr rfl mH kH bH .nil pass1 (pa_cons (pv 2) pa_nil)))
      (pss_cons (ps_if (pt_cmpR op_ne (pe_dget hu (pe_fld (pv 0) rfl) (pv 1) (fun _ _ => rfl)) pe_int (nomark _)) (pss_one (ps_raise hr.hd T.xCT.exc rfl)) pss_nil)
      (pss_one (ps_dput hu (pe_fld (pv 0) rfl) (pv 1) (pv 2) rfl)))), ?_⟩
    refine ⟨_, rfl, p, dx, _, rfl, h1, bflds_no _ _ _ (by decide +kernel) (by decide +kernel) (by decide +kernel), _, rfl, p, d, b, R, C, own, r, c, rfl, B, hc, fun hb => ?_, k1⟩
    refine ⟨_, rfl, hd, rfl, fun hh => ?_, k2 hb⟩
    have g := cell_get B hc
    rw [if_pos hb] at g
    refine ⟨_, rfl, p, D.CB, dx, _, _, rfl, h1, T.cl, T.nO, bflds_o _ _ _, _, rfl, d, _, rfl, g, rfl, _, rfl, ite2 (fun h => ?_) (fun h => ?_)⟩
    · exact k3 hb hh (by simpa using h)
    · have e0 : own (r.toNat, c.toNat) = 0 := by simpa using h
      refine ⟨_, rfl, _, rfl, p, D.CB, dx, _, _, rfl, h1, T.cl, T.nO, bflds_o _ _ _, _, rfl, d, _, rfl, DPut.t (k := keyC r c) B.dc hc (by rw [len_kvs]; exact small1000 (by omega)), ?_⟩
      rw [put_kvs hb]
      exact k4 hb hh e0
theorem scInit : FnScope ["self", "rows", "columns", "row", "column"] ["self", "rows", "columns"] (defScope sInit) := ⟨rfl, rfl, rfl, by decide +kernel, rfl, by decide +kernel, by decide +kernel⟩
theorem ok_init {f fL : Addr} {fd fdL : FuncData} (F : Fun K "__init__" "Board.__init__" sInit f fd) (T : Txt K mg D) (GL : FnOk P w K mg base (CX1 P w) 1 fL fdL ["number"] (spLen D)) (kL : PySem.W.keepIn K (.ref fL) = true) (bL : Binds K fdL ["number"] []) (mL : mg "check_length" = some (.ref fL)) :
    FnOk P w K mg base (CX1 P w) 2 f fd ["self", "rows", "columns"] (spInit D) := by
  refine F.ok1 scInit (fun vs H Q E h => ?_) (fun cdv A outer s H vs Q E hr h => ?_)
  · obtain ⟨p, dx, m, n, rfl, _⟩ := h
    rfl
  · obtain ⟨p, dx, m, n, rfl, hp, k, kx⟩ := h
    have hu := hu_of hr
    refine ⟨_, pss_cons (ps_expr (pe_call GL hr rfl mL kL bL .nil pass1 (pa_cons (pv 1) pa_nil)))
      (pss_cons (ps_expr (pe_call GL hr rfl mL kL bL .nil pass1 (pa_cons (pv 2) pa_nil)))
      (PSs.nox (pss_cons (ps_fld (pv 0) (pv 1) rfl)
      (pss_cons (ps_fld (pv 0) (pv 2) rfl)
      (pss_cons (ps_fld (pv 0) pe_dnewT rfl)
      (pss_one (ps_for PassesOwn.never rfl (pi_range1 rfl T.rng (pa_cons (pv 1) pa_nil)) (pg_name (i := 3) scInit.nd rfl (Or.inl rfl))
        (pss_one (ps_for PassesOwn.never rfl (pi_range1 rfl T.rng (pa_cons (pv 2) pa_nil)) (pg_name (i := 4) scInit.nd rfl (Or.inl rfl))
          (pss_one (ps_dput hu (pe_fld (pv 0) rfl) (pe_tup (pa_cons (pv 3) (pa_cons (pv 4) pa_nil))) pe_int rfl))))))))))), ?_⟩
    refine ⟨_, rfl, m, rfl, fun hm => ?_, fun hm => kx (fun z => hm z.1)⟩
    refine ⟨_, rfl, n, rfl, fun hn => ?_, fun hn => kx (fun z => hn z.2)⟩
    obtain ⟨R, rfl⟩ : ∃ R : Nat, m = R := ⟨m.toNat, by omega⟩
    obtain ⟨C, rfl⟩ : ∃ C : Nat, n = C := ⟨n.toNat, by omega⟩
    have r1 : 1 ≤ R := by omega
    have r2 : R ≤ 10 := by omega
    have c1 : 1 ≤ C := by omega
    have c2 : C ≤ 10 := by omega
    have k := k R C rfl rfl r1 r2 c1 c2
    refine ⟨_, rfl, _, rfl, p, D.CB, dx, _, rfl, hp, T.cl, T.nH, (by show 0 < 1000; decide), ?_⟩
    refine ⟨_, rfl, _, rfl, p, D.CB, dx, _, rfl, upd_same, T.cl, T.nW, (by show 1 < 1000; decide), ?_⟩
    intro d nd
    have nd0 : H d = none := by
      cases q : H d with
      | none => rfl
      | some o =>
        by_cases z : d = p
        · rw [z, upd_same] at nd; cases nd
        · rw [upd_ne z, upd_ne z, q] at nd; cases nd
    have npd : p ≠ d := ne_of_none hp nd0
    refine ⟨_, rfl, p, D.CB, dx, _, rfl, (by rw [upd_ne npd]; exact upd_same), T.cl, T.nO, (by show 2 < 1000; decide), ?_⟩
    refine ⟨_, rfl, (R : Int), rfl, by omega, by omega, ?_⟩
    have eR : ((R : Int)).toNat = R := Int.toNat_natCast R
    rw [eR]
    refine for_range (n := R) (fun i σ H2 => ∃ v4 v5 : Option V, σ = [some (.ref p), some (.int R), some (.int C), v4, v5] ∧ H2 p = some (.ins D.CB dx (bflds R C d)) ∧ H2 d = some (.dT (kvsOf i C fun _ => 0)) ∧ ∀ b o, H b = some o → b ≠ p → H2 b = some o)
      ⟨none, none, rfl, upd_same, by rw [upd_ne npd.symm]; exact upd_same, fun b o e hb => by rw [upd_ne hb, upd_ne (ne_of_none e nd0), upd_ne hb, upd_ne hb]; exact e⟩ ?_ ?_
    · rintro i σ H2 hi ⟨v4, v5, rfl, g1, g2, g3⟩
      refine ⟨_, rfl, (C : Int), rfl, by omega, by omega, ?_⟩
      have eC : ((C : Int)).toNat = C := Int.toNat_natCast C
      rw [eC]
      refine for_range (n := C) (fun j σ H3 => ∃ v5 : Option V, σ = [some (.ref p), some (.int R), some (.int C), some (.int (0 + (i : Int))), v5] ∧ H3 p = some (.ins D.CB dx (bflds R C d)) ∧ H3 d = some (.dT (kvsOf i C (fun _ => 0) ++ (List.range j).map fun c : Nat => (keyC (i : Nat) (c : Nat), V.int 0))) ∧ ∀ b o, H b = some o → b ≠ p → H3 b = some o)
        ⟨v5, rfl, g1, by rw [g2]; simp, g3⟩ ?_ ?_
      · rintro j σ H3 hj ⟨v5, rfl, f1, f2, f3⟩
        refine ⟨_, rfl, p, D.CB, dx, _, _, rfl, f1, T.cl, T.nO, bflds_o _ _ _, _, rfl, _, rfl, (by show 2 ≤ sizeLine; decide), fun t nt => ?_⟩
        refine ⟨d, _, rfl, DPut.t (k := keyC i j) (by rw [upd_ne (ne_of_none f2 nt)]; exact f2) (by rw [upd_same]; show some (HO.tup [V.int (0 + (i : Int)), V.int (0 + (j : Int))]) = some (HO.tup [V.int i, V.int j]); rw [Int.zero_add, Int.zero_add]) ?_, ?_⟩
        · have l1 : (kvsOf i C (fun _ => 0) ++ (List.range j).map fun c : Nat => (keyC (i : Nat) (c : Nat), V.int 0)).length = i * C + j := by rw [List.length_append, len_kvs, List.length_map, List.length_range]
          rw [l1]
          have l2 : i * C ≤ 10 * 10 := Nat.mul_le_mul (by omega) c2
          exact small1000 (by omega)
        · have ntd : t ≠ d := fun z => by rw [z, f2] at nt; cases nt
          have ntp : t ≠ p := fun z => by rw [z, f1] at nt; cases nt
          refine ⟨some (.int (0 + (j : Int))), rfl, by rw [upd_ne npd, upd_ne (Ne.symm ntp)]; exact f1, by rw [upd_same, kvs_row], fun b o e hb => ?_⟩
          rw [upd_ne (ne_of_none e nd0), upd_ne (fun z => by rw [z] at e; have := f3 t o e ntp; rw [this] at nt; cases nt)]
          exact f3 b o e hb
      · rintro σ H3 ⟨v5, rfl, f1, f2, f3⟩
        exact ⟨some (.int (0 + (i : Int))), v5, rfl, f1, by rw [f2, kvs_next], f3⟩
    · rintro σ H2 ⟨v4, v5, rfl, g1, g2, g3⟩
      exact k d H2 nd0 ⟨⟨dx, g1⟩, g2⟩ g3
theorem scCellAt : FnScope ["script", "k"] ["script", "k"] (defScope sCellAt) := ⟨rfl, rfl, rfl, by decide +kernel, rfl, by decide +kernel, by decide +kernel⟩
theorem ok_cellAt {f : Addr} {fd : FuncData} (F : Fun K "_law_cell_at" "_law_cell_at" sCellAt f fd) (T : Txt K mg D) : FnOk P w K mg base (CX1 P w) 1 f fd ["script", "k"] (spCellAt K) := by
  refine F.ok0 scCellAt (fun vs H Q E h => ?_) (fun cdv A outer s H vs Q E hr h => ?_)
  · obtain ⟨a, ns, k, rfl, _⟩ := h
    rfl
  · obtain ⟨a, ns, k, rfl, hS, hl, q⟩ := h
    refine ⟨_, pss_cons (ps_if (pt_cmpR op_lt (pv 1) (pe_callB call_len_seq rfl T.len PySem.boot_len (pa_cons (pv 0) pa_nil)) (nomark _)) (pss_one (ps_ret (pe_ix ix_list (pv 0) (pv 1) (fun _ _ => rfl)))) pss_nil) (pss_one (ps_ret pe_int)), ?_⟩
    refine ⟨_, rfl, _, rfl, a, _, rfl, .inl hS, _, _, rfl, rfl, _, rfl, ?_⟩
    by_cases hk : k < ns.length
    · refine iteY (by simp; omega) ?_
      refine ⟨_, rfl, _, rfl, a, _, _, _, rfl, rfl, hS, atI_nat (j := k) (v := V.int (ns.getD k 0)) ?_, q⟩
      simp [hk]
    · refine iteN (by simp; omega) ?_
      have e : ns.getD k 0 = 0 := by simp [List.getD, List.getElem?_eq_none (Nat.le_of_not_lt hk)]
      rw [e] at q
      exact q
theorem scWhole : FnScope ["found"] ["found"] (defScope sWhole) := ⟨rfl, rfl, rfl, by decide +kernel, rfl, by decide +kernel, by decide +kernel⟩
theorem ok_whole {f : Addr} {fd : FuncData} (F : Fun K "_law_whole" "_law_whole" sWhole f fd) (T : Txt K mg D) : FnOk P w K mg base (CX1 P w) 1 f fd ["found"] spWhole := by
  refine F.ok0 scWhole (fun vs H Q E h => ?_) (fun cdv A outer s H vs Q E hr h => ?_)
  · obtain ⟨i, rfl, _⟩ := h
    rfl
  · obtain ⟨i, rfl, q⟩ := h
    refine ⟨_, pss_one (ps_ret (pe_and (pe_callB call_isi rfl T.isi (by decide +kernel) (pa_cons (pv 0) (pa_cons (pe_bltn (v := .ty "int") rfl T.tInt (by decide +kernel) rfl) pa_nil)))
      (pe_one (pe_not (pe_callB call_isi rfl T.isi (by decide +kernel) (pa_cons (pv 0) (pa_cons (pe_bltn (v := .ty "bool") rfl T.tBool (by decide +kernel) rfl) pa_nil))))))), ?_⟩
    refine ⟨_, rfl, _, _, _, _, _, rfl, rfl, .int _, T.k3, _, rfl, ?_⟩
    refine iteT ?_
    exact ⟨_, rfl, _, _, _, _, _, rfl, rfl, .int _, T.k4, _, rfl, q⟩
end
end K13

set_option maxHeartbeats 4000000
namespace K13
open PySem L2 Bd
def spOwners (K : PySem.W.Frag) : Sp := fun vs H Q _ => ∃ (a : Addr) (ns : List Int) (k R C : Nat), vs = [.ref a, .int k, .int R, .int C] ∧ SqL K H a (ns.map V.int) ∧ ns.length ≤ 63 ∧ R ≤ 10 ∧ C ≤ 10 ∧
  ∀ o H' own ks, Same H H' → H o = none → OD H' o R C own ks → (∀ p, own p = 0 ∨ own p = 1 ∨ own p = 2) → Q (.ref o) H'
def spText : Sp := fun vs H Q _ => ∃ (R C : Nat) (o : Addr) (own : Nat × Nat → Int) (ks : List Cl), vs = [.int R, .int C, .ref o] ∧ 1 ≤ R ∧ R ≤ 10 ∧ C ≤ 10 ∧ OD H o R C own ks ∧ (∀ p, own p = 0 ∨ own p = 1 ∨ own p = 2) ∧ ∀ H' (z : Str), Same H H' → 1 ≤ z.length → z.length ≤ 110 → Q (.str z) H'
section
variable {P : Program} {w : World} {K : PySem.W.Frag} {mg : Str → Option Value} {base : Heap} {D : Ads}
theorem scOwners : FnScope ["script", "first", "rows", "columns", "owners", "r", "digits", "c"] ["script", "first", "rows", "columns"] (defScope sOwners) := ⟨rfl, rfl, rfl, by decide +kernel, rfl, by decide +kernel, by decide +kernel⟩
theorem ok_owners {f fA : Addr} {fd fdA : FuncData} (F : Fun K "_law_owners" "_law_owners" sOwners f fd) (T : Txt K mg D)
    (GA : FnOk P w K mg base (CX1 P w) 1 fA fdA ["script", "k"] (spCellAt K)) (kA : PySem.W.keepIn K (.ref fA) = true) (bA : Binds K fdA ["script", "k"] []) (mA : mg "_law_cell_at" = some (.ref fA)) :
    FnOk P w K mg base (CX1 P w) 2 f fd ["script", "first", "rows", "columns"] (spOwners K) := by
  refine F.ok0 scOwners (fun vs H Q E h => ?_) (fun cdv A outer s H vs Q E hr h => ?_)
  · obtain ⟨a, ns, k, R, C, rfl, _⟩ := h
    rfl
  · obtain ⟨a, ns, k0, R, C, rfl, hS, hlen, hR, hC, q⟩ := h
    have hu := hu_of hr
    refine ⟨_, pss_cons (ps_set (i := 4) scOwners.nd rfl (Or.inl rfl) pe_dnewT)
      (pss_cons (ps_for PassesOwn.never rfl (pi_range1 rfl T.rng (pa_cons (pv 2) pa_nil)) (pg_name (i := 5) scOwners.nd rfl (Or.inl rfl))
        (pss_cons (ps_set (i := 6) scOwners.nd rfl (Or.inl rfl) (pe_call GA hr rfl mA kA bA .nil passN (pa_cons (pv 0) (pa_cons (pe_op op_add (pv 1) (pv 5)) pa_nil))))
        (pss_one (ps_for PassesOwn.never rfl (pi_range1 rfl T.rng (pa_cons (pv 3) pa_nil)) (pg_name (i := 7) scOwners.nd rfl (Or.inl rfl))
          (pss_cons (ps_if (pt_cmpR op_gt (pe_op op_mod (pv 6) pe_int) pe_int (nomark _)) (pss_one (ps_dput hu (pv 4) (pe_tup (pa_cons (pv 5) (pa_cons (pv 7) pa_nil))) (pe_op op_mod (pv 6) pe_int) rfl)) pss_nil)
          (pss_one (ps_set (i := 6) scOwners.nd rfl (Or.inl rfl) (pe_op op_fdiv (pv 6) pe_int))))))))
      (pss_one (ps_ret (pv 4)))), ?_⟩
    intro o no
    refine ⟨_, rfl, (R : Int), rfl, by omega, by omega, ?_⟩
    rw [Int.toNat_natCast]
    refine for_range (n := R) (fun i σ H2 => ∃ v5 v6 v7 own ks, σ = [some (.ref a), some (.int k0), some (.int R), some (.int C), some (.ref o), v5, v6, v7] ∧ Same H H2 ∧ OD H2 o R C own ks ∧ (∀ p, own p = 0 ∨ own p = 1 ∨ own p = 2)) ?_ ?_ ?_
    · exact ⟨none, none, none, fun _ => 0, [], rfl, Same.upd no, OD.none, fun _ => .inl rfl⟩
    · rintro i σ H2 hi ⟨v5, v6, v7, own, ks, rfl, s2, od, o3⟩
      refine ⟨_, rfl, _, rfl, _, rfl, _, _, rfl, rfl, a, ns, k0 + i, (by rw [show ((k0 + i : Nat) : Int) = (k0 : Int) + (0 + (i : Int)) by omega]; rfl), s2.seq hS, hlen, ?_⟩
      generalize ns.getD (k0 + i) 0 = dg
      refine ⟨_, rfl, (C : Int), rfl, by omega, by omega, ?_⟩
      rw [Int.toNat_natCast]
      refine for_range (n := C) (fun j σ H3 => ∃ dg v7 own ks, σ = [some (.ref a), some (.int k0), some (.int R), some (.int C), some (.ref o), some (.int (0 + (i : Int))), some (.int dg), v7] ∧ Same H H3 ∧ OD H3 o R C own ks ∧ (∀ p, own p = 0 ∨ own p = 1 ∨ own p = 2)) ?_ ?_ ?_
      · exact ⟨dg, v7, own, ks, rfl, s2, od, o3⟩
      · rintro j σ H3 hj ⟨dg, v7, own, ks, rfl, s3, od, o3⟩
        have hb : inB R C (0 + (i : Int)) (0 + (j : Int)) := by unfold inB; omega
        refine ⟨_, rfl, _, _, rfl, rfl, (by show (0 : Int) < 3; decide), _, _, rfl, rfl, _, rfl, ite2 (fun e2 => ?_) (fun e2 => ?_)⟩
        · have e2 : dg % 3 > 0 := by simpa using e2
          refine ⟨_, rfl, _, _, rfl, rfl, (by show (0 : Int) < 3; decide), _, rfl, _, rfl, _, rfl, (by show 2 ≤ sizeLine; decide), fun t nt => ?_⟩
          obtain ⟨H5, d5, od5, s5⟩ := od.step (v := dg % 3) s3 no nt hb (by omega) hR hC
          refine ⟨o, H5, rfl, d5, ?_⟩
          refine ⟨_, rfl, _, _, rfl, rfl, ⟨by decide, by decide⟩, ?_⟩
          exact ⟨_, _, _, _, rfl, s5, od5, setO_3 o3 (by omega)⟩
        · refine ⟨_, rfl, _, _, rfl, rfl, ⟨by decide, by decide⟩, ?_⟩
          exact ⟨_, _, _, _, rfl, s3, od, o3⟩
      · rintro σ H3 ⟨dg, v7, own, ks, rfl, s3, od, o3⟩
        exact ⟨_, _, _, own, ks, rfl, s3, od, o3⟩
    · rintro σ H2 ⟨v5, v6, v7, own, ks, rfl, s2, od, o3⟩
      exact ⟨_, rfl, q o H2 own ks s2 no od o3⟩
theorem str_len (x y : Str) : (x ++ y).length = x.length + y.length := Array.size_append
theorem sign_at {v : Int} (h : v = 0 ∨ v = 1 ∨ v = 2) : ∃ c, atI (Str.ofString ".12").cps.toList v = some c := by
  rcases h with rfl | rfl | rfl
  · exact ⟨46, by decide +kernel⟩
  · exact ⟨49, by decide +kernel⟩
  · exact ⟨50, by decide +kernel⟩
theorem scText : FnScope ["rows", "columns", "owners", "text", "r", "c"] ["rows", "columns", "owners"] (defScope sText) := ⟨rfl, rfl, rfl, by decide +kernel, rfl, by decide +kernel, by decide +kernel⟩
theorem ok_text {f : Addr} {fd : FuncData} (F : Fun K "_law_text" "_law_text" sText f fd) (T : Txt K mg D) : FnOk P w K mg base (CX1 P w) 1 f fd ["rows", "columns", "owners"] spText := by
  refine F.ok0 scText (fun vs H Q E h => ?_) (fun cdv A outer s H vs Q E hr h => ?_)
  · obtain ⟨R, C, o, own, ks, rfl, _⟩ := h
    rfl
  · obtain ⟨R, C, o, own, ks, rfl, hR0, hR, hC, od, o3, q⟩ := h
    have hu := hu_of hr
    have sl : 1000 ≤ sizeLine := by rw [sizeLine_eq]; decide
    refine ⟨_, pss_cons (ps_set (i := 3) scText.nd rfl (Or.inl rfl) pe_str)
      (pss_cons (ps_for PassesOwn.never rfl (pi_range1 rfl T.rng (pa_cons (pv 0) pa_nil)) (pg_name (i := 4) scText.nd rfl (Or.inl rfl))
        (pss_cons (ps_for PassesOwn.never rfl (pi_range1 rfl T.rng (pa_cons (pv 1) pa_nil)) (pg_name (i := 5) scText.nd rfl (Or.inl rfl))
          (pss_one (ps_set (i := 3) scText.nd rfl (Or.inl rfl) (pe_op op_add_str (pv 3) (pe_ix ix_str pe_str (pe_dget2 hu (pv 2) (pe_tup (pa_cons (pv 4) (pa_cons (pv 5) pa_nil))) pe_int (by exact ⟨rfl, rfl, rfl, rfl⟩)) (fun _ _ => rfl))))))
        (pss_one (ps_set (i := 3) scText.nd rfl (Or.inl rfl) (pe_op op_add_str (pv 3) pe_str)))))
      (pss_one (ps_ret (pv 3)))), ?_⟩
    refine ⟨_, rfl, (R : Int), rfl, by omega, by omega, ?_⟩
    rw [Int.toNat_natCast]
    refine for_range (n := R) (fun i σ H2 => ∃ (z : Str) (v4 v5 : Option V), σ = [some (.int R), some (.int C), some (.ref o), some (.str z), v4, v5] ∧ Same H H2 ∧ z.length = i * (C + 1)) ?_ ?_ ?_
    · exact ⟨_, none, none, rfl, Same.refl _, by simp; rfl⟩
    · rintro i σ H2 hi ⟨z, v4, v5, rfl, s2, lz⟩
      refine ⟨_, rfl, (C : Int), rfl, by omega, by omega, ?_⟩
      rw [Int.toNat_natCast]
      refine for_range (n := C) (fun j σ H3 => ∃ (z : Str) (v5 : Option V), σ = [some (.int R), some (.int C), some (.ref o), some (.str z), some (.int (0 + (i : Int))), v5] ∧ Same H H3 ∧ z.length = i * (C + 1) + j) ?_ ?_ ?_
      · exact ⟨z, v5, rfl, s2, by rw [lz]; rfl⟩
      · rintro j σ H3 hj ⟨z, v5, rfl, s3, lz⟩
        have od3 := od.mono s3
        have lm : i * (C + 1) ≤ 10 * 11 := Nat.mul_le_mul (by omega) (by omega)
        refine ⟨_, rfl, _, rfl, o, rfl, .inr ⟨_, .inl od3.dd.1⟩, _, rfl, _, rfl, (by show 2 ≤ sizeLine; decide), fun t nt => ?_⟩
        have s4 : Same H3 (upd H3 t (.tup [.int (0 + (i : Int)), .int (0 + (j : Int))])) := Same.upd nt
        have ct : CellAt (upd H3 t (.tup [.int (0 + (i : Int)), .int (0 + (j : Int))])) t (0 + (i : Int)) (0 + (j : Int)) := upd_same
        generalize upd H3 t (.tup [.int (0 + (i : Int)), .int (0 + (j : Int))]) = H4 at s4 ct ⊢
        have g := (od3.mono s4).dd.get (p := (0 + (i : Int), 0 + (j : Int))) ct
        obtain ⟨v, ev, hv⟩ : ∃ v : Int, (if ((0 + (i : Int), 0 + (j : Int)) : Cl) ∈ ks then some (V.int (own (nat2 (0 + (i : Int), 0 + (j : Int))))) else none).getD (.int 0) = .int v ∧ (v = 0 ∨ v = 1 ∨ v = 2) := by
          by_cases m : ((0 + (i : Int), 0 + (j : Int)) : Cl) ∈ ks
          · rw [if_pos m]; exact ⟨_, rfl, o3 _⟩
          · rw [if_neg m]; exact ⟨0, rfl, .inl rfl⟩
        obtain ⟨c, hc⟩ := sign_at hv
        refine ⟨_, g, _, v, c, rfl, ev, (by show 3 ≤ sizeLine; omega), hc, ?_⟩
        refine ⟨z, ⟨#[c]⟩, rfl, rfl, (by show z.length + 1 ≤ sizeLine; omega), ?_⟩
        exact ⟨_, _, rfl, s3.trans s4, by rw [str_len, lz]; rfl⟩
      · rintro σ H3 ⟨z, v5, rfl, s3, lz⟩
        have lm : i * (C + 1) ≤ 10 * 11 := Nat.mul_le_mul (by omega) (by omega)
        refine ⟨_, rfl, z, _, rfl, rfl, (by show z.length + 1 ≤ sizeLine; omega), ?_⟩
        exact ⟨_, _, _, rfl, s3, by rw [str_len, lz, Nat.succ_mul]; rfl⟩
    · rintro σ H2 ⟨z, v4, v5, rfl, s2, lz⟩
      have lm : R * (C + 1) ≤ 10 * 11 := Nat.mul_le_mul hR (by omega)
      have lp : 1 ≤ R * (C + 1) := Nat.mul_pos hR0 (Nat.succ_pos C)
      exact ⟨_, rfl, q H2 z s2 (by omega) (by omega)⟩
end
end K13

set_option maxHeartbeats 4000000
namespace K13
open PySem L2 Bd
def spSignBy : Sp := fun vs H Q _ => ∃ n : Int, vs = [.int n] ∧ ∀ c : Nat, Q (.str ⟨#[c]⟩) H
def spSpoiled : Sp := fun vs H Q _ => ∃ (z : Str) (n : Int), vs = [.str z, .int n] ∧ 1 ≤ z.length ∧ z.length ≤ 110 ∧ ∀ H' (r : Str), Same H H' → r.length ≤ 2000 → Q (.str r) H'
section
variable {P : Program} {w : World} {K : PySem.W.Frag} {mg : Str → Option Value} {base : Heap} {D : Ads}
theorem atI_some {α : Type} {l : List α} {i : Int} (h0 : 0 ≤ i) (h1 : i < l.length) : ∃ c, atI l i = some c := by
  have hk : i.toNat < l.length := by omega
  refine ⟨l[i.toNat], ?_⟩
  have := atI_nat (List.getElem?_eq_getElem hk)
  rw [Int.toNat_of_nonneg h0] at this
  exact this
/-- a sign of a text, by a number modulo its length -/
theorem ix_mod {H : Hp} {Q : VK} (z : Str) (n : Int) (m : Nat) (hl : z.length = m) (hm : 0 < m) (hz : m ≤ 1000) (q : ∀ c : Nat, Q (.str ⟨#[c]⟩) H) : rIxS (.str z) (.int (n % (m : Int))) H Q := by
  have b1 := Int.emod_nonneg n (show (m : Int) ≠ 0 by omega)
  have b2 := Int.emod_lt_of_pos n (show (0 : Int) < m by omega)
  have el : z.cps.toList.length = m := by rw [Array.length_toList]; exact hl
  obtain ⟨c, hc⟩ := atI_some (l := z.cps.toList) b1 (by rw [el]; exact b2)
  exact ⟨z, _, c, rfl, rfl, by rw [hl]; exact Nat.le_of_lt (small1000 hz), hc, q c⟩
theorem scSignBy : FnScope ["cell", "some"] ["cell"] (defScope sSignBy) := ⟨rfl, rfl, rfl, by decide +kernel, rfl, by decide +kernel, by decide +kernel⟩
theorem ok_signBy {f : Addr} {fd : FuncData} (F : Fun K "_law_sign_by" "_law_sign_by" sSignBy f fd) (T : Txt K mg D) : FnOk P w K mg base (CX1 P w) 1 f fd ["cell"] spSignBy := by
  refine F.ok0 scSignBy (fun vs H Q E h => ?_) (fun cdv A outer s H vs Q E hr h => ?_)
  · obtain ⟨n, rfl, _⟩ := h
    rfl
  · obtain ⟨n, rfl, q⟩ := h
    refine ⟨_, pss_cons (ps_set (i := 1) scSignBy.nd rfl (Or.inl rfl) pe_str)
      (pss_cons (ps_set (i := 1) scSignBy.nd rfl (Or.inl rfl) (pe_op op_add_str (pv 1) pe_str))
      (pss_one (ps_ret (pe_ix ix_str (pv 1) (pe_op op_mod (pv 0) pe_int) (fun _ _ => rfl))))), ?_⟩
    refine ⟨_, rfl, _, _, rfl, rfl, (by decide +kernel), ?_⟩
    exact ⟨_, rfl, _, rfl, _, _, rfl, rfl, (by show (0 : Int) < 94; decide), ix_mod _ n 94 (by decide +kernel) (by decide) (by decide) q⟩
theorem scSpoiled : FnScope ["text", "cell", "place", "rest", "way"] ["text", "cell"] (defScope sSpoiled) := ⟨rfl, rfl, rfl, by decide +kernel, rfl, by decide +kernel, by decide +kernel⟩
theorem ok_spoiled {f fS : Addr} {fd fdS : FuncData} (F : Fun K "_law_spoiled" "_law_spoiled" sSpoiled f fd) (T : Txt K mg D)
    (GS : FnOk P w K mg base (CX1 P w) 1 fS fdS ["cell"] spSignBy) (kS : PySem.W.keepIn K (.ref fS) = true) (bS : Binds K fdS ["cell"] []) (mS : mg "_law_sign_by" = some (.ref fS)) :
    FnOk P w K mg base (CX1 P w) 2 f fd ["text", "cell"] spSpoiled := by
  refine F.ok0 scSpoiled (fun vs H Q E h => ?_) (fun cdv A outer s H vs Q E hr h => ?_)
  · obtain ⟨z, n, rfl, _⟩ := h
    rfl
  · obtain ⟨z, n, rfl, z1, z2, q⟩ := h
    have sl : 4000 ≤ sizeLine := by rw [sizeLine_eq]; decide
    refine ⟨_, pss_cons (ps_set (i := 2) scSpoiled.nd rfl (Or.inl rfl) (pe_op op_mod (pe_op op_fdiv (pv 1) pe_int) (pe_callB call_len_str rfl T.len PySem.boot_len (pa_cons (pv 0) pa_nil))))
      (pss_cons (ps_set (i := 3) scSpoiled.nd rfl (Or.inl rfl) (pe_op op_fdiv (pe_op op_fdiv (pv 1) pe_int) (pe_callB call_len_str rfl T.len PySem.boot_len (pa_cons (pv 0) pa_nil))))
      (pss_cons (ps_set (i := 4) scSpoiled.nd rfl (Or.inl rfl) (pe_op op_mod (pv 1) pe_int))
      (pss_cons (ps_if (pt_cmpR op_eq (pv 4) pe_int (nomark _)) (pss_one (ps_ret (pe_op op_add_str (pe_op op_add_str (pe_slice sl_str (pv 0) po_none (po_some (pv 2))) (pe_call GS hr rfl mS kS bS .nil passN (pa_cons (pv 3) pa_nil))) (pe_slice sl_str (pv 0) (po_some (pv 2)) po_none)))) pss_nil)
      (pss_cons (ps_if (pt_cmpR op_eq (pv 4) pe_int (nomark _)) (pss_one (ps_ret (pe_op op_add_str (pe_op op_add_str (pe_slice sl_str (pv 0) po_none (po_some (pv 2))) (pe_call GS hr rfl mS kS bS .nil passN (pa_cons (pv 3) pa_nil))) (pe_slice sl_str (pv 0) (po_some (pe_op op_add (pv 2) pe_int)) po_none)))) pss_nil)
      (pss_cons (ps_if (pt_cmpR op_eq (pv 4) pe_int (nomark _)) (pss_one (ps_ret (pe_op op_add_str (pe_op op_add_str (pe_slice sl_str (pv 0) po_none (po_some (pv 2))) pe_str) (pe_slice sl_str (pv 0) (po_some (pv 2)) po_none)))) pss_nil)
      (pss_cons (ps_if (pt_cmpR op_eq (pv 4) pe_int (nomark _)) (pss_one (ps_ret (pe_op op_add_str (pe_slice sl_str (pv 0) po_none (po_some (pv 2))) (pe_slice sl_str (pv 0) (po_some (pe_op op_add (pv 2) pe_int)) po_none)))) pss_nil)
      (pss_cons (ps_if (pt_cmpR op_eq (pv 4) pe_int (nomark _)) (pss_one (ps_ret (pe_slice sl_str (pv 0) po_none (po_some (pe_un un_neg pe_int))))) pss_nil)
      (pss_cons (ps_if (pt_cmpR op_eq (pv 4) pe_int (nomark _)) (pss_one (ps_ret (pe_op op_add_str (pv 0) (pe_slice sl_str (pv 0) po_none (po_some (pe_op op_add (pe_bm PySem.F.plainAttrs_str PySem.F.slot_str_find PySem.F.type_str_find mt_find (pv 0) (pa_cons pe_str pa_nil)) pe_int)))))) pss_nil)
      (pss_cons (ps_if (pt_cmpR op_eq (pv 4) pe_int (nomark _)) (pss_one (ps_ret (pe_slice sl_str (pe_op op_mul_str (pe_slice sl_str (pv 0) po_none (po_some (pe_op op_add (pe_bm PySem.F.plainAttrs_str PySem.F.slot_str_find PySem.F.type_str_find mt_find (pv 0) (pa_cons pe_str pa_nil)) pe_int))) pe_int) po_none (po_some pe_int)))) pss_nil)
      (pss_cons (ps_if (pt_cmpR op_eq (pv 4) pe_int (nomark _)) (pss_one (ps_ret (pe_op op_add_str pe_str pe_str))) pss_nil)
      (pss_cons (ps_if (pt_cmpR op_eq (pv 4) pe_int (nomark _)) (pss_one (ps_ret (pe_ix ix_list (pe_lst (pa_cons pe_str (pa_cons pe_str (pa_cons pe_str (pa_cons pe_str (pa_cons pe_str pa_nil)))))) (pe_op op_mod (pv 3) pe_int) (fun _ _ => rfl)))) pss_nil)
      (pss_one (ps_ret (pe_op op_add_str (pe_op op_add_str (pe_slice sl_str (pv 0) po_none (po_some (pv 2))) (pe_ix ix_str pe_str (pe_op op_mod (pv 3) pe_int) (fun _ _ => rfl))) (pe_slice sl_str (pv 0) (po_some (pe_op op_add (pv 2) pe_int)) po_none))))))))))))))), ?_⟩
    have one : ∀ c : Nat, Str.length ⟨#[c]⟩ = 1 := fun _ => rfl
    refine ⟨_, rfl, _, _, rfl, rfl, ⟨by decide, by decide⟩, _, rfl, z, rfl, by omega, _, _, rfl, rfl, (by show (0 : Int) < (z.length : Nat); omega), ?_⟩
    refine ⟨_, rfl, _, _, rfl, rfl, ⟨by decide, by decide⟩, _, rfl, z, rfl, by omega, _, _, rfl, rfl, ⟨by show (0 : Int) < (z.length : Nat); omega, by show ((z.length : Nat) : Int) < 1073741824; omega⟩, ?_⟩
    refine ⟨_, rfl, _, _, rfl, rfl, (by show (0 : Int) < 11; decide), ?_⟩
    refine ⟨_, rfl, rfl, _, rfl, ite2 (fun _ => ?_) (fun _ => ?_)⟩
    · refine ⟨_, rfl, _, rfl, _, rfl, z, rfl, by omega, fun y1 h1 => ⟨_, rfl, _, rfl, fun c => ⟨y1, _, rfl, rfl, (by rw [one]; omega), ?_⟩⟩⟩
      exact ⟨_, rfl, _, rfl, _, rfl, z, rfl, by omega, fun y2 h2 => ⟨_, y2, rfl, rfl, (by rw [str_len, one]; omega), q H _ (Same.refl _) (by rw [str_len, str_len, one]; omega)⟩⟩
    refine ⟨_, rfl, rfl, _, rfl, ite2 (fun _ => ?_) (fun _ => ?_)⟩
    · refine ⟨_, rfl, _, rfl, _, rfl, z, rfl, by omega, fun y1 h1 => ⟨_, rfl, _, rfl, fun c => ⟨y1, _, rfl, rfl, (by rw [one]; omega), ?_⟩⟩⟩
      exact ⟨_, rfl, _, rfl, _, _, rfl, rfl, _, rfl, z, rfl, by omega, fun y2 h2 => ⟨_, y2, rfl, rfl, (by rw [str_len, one]; omega), q H _ (Same.refl _) (by rw [str_len, str_len, one]; omega)⟩⟩
    refine ⟨_, rfl, rfl, _, rfl, ite2 (fun _ => ?_) (fun _ => ?_)⟩
    · refine ⟨_, rfl, _, rfl, _, rfl, z, rfl, by omega, fun y1 h1 => ⟨y1, _, rfl, rfl, (by show y1.length + 1 ≤ _; omega), ?_⟩⟩
      exact ⟨_, rfl, _, rfl, _, rfl, z, rfl, by omega, fun y2 h2 => ⟨_, y2, rfl, rfl, (by rw [str_len]; show y1.length + 1 + _ ≤ _; omega), q H _ (Same.refl _) (by rw [str_len, str_len]; show y1.length + 1 + _ ≤ _; omega)⟩⟩
    refine ⟨_, rfl, rfl, _, rfl, ite2 (fun _ => ?_) (fun _ => ?_)⟩
    · refine ⟨_, rfl, _, rfl, _, rfl, z, rfl, by omega, fun y1 h1 => ?_⟩
      exact ⟨_, rfl, _, rfl, _, _, rfl, rfl, _, rfl, z, rfl, by omega, fun y2 h2 => ⟨y1, y2, rfl, rfl, by omega, q H _ (Same.refl _) (by rw [str_len]; omega)⟩⟩
    refine ⟨_, rfl, rfl, _, rfl, ite2 (fun _ => ?_) (fun _ => ?_)⟩
    · exact ⟨_, rfl, _, rfl, _, rfl, z, rfl, by omega, fun y1 h1 => q H _ (Same.refl _) (by omega)⟩
    refine ⟨_, rfl, rfl, _, rfl, ite2 (fun _ => ?_) (fun _ => ?_)⟩
    · exact ⟨_, rfl, _, rfl, _, rfl, rfl, z, _, rfl, rfl, _, _, rfl, rfl, _, rfl, z, rfl, by omega, fun y1 h1 => ⟨z, y1, rfl, rfl, by omega, q H _ (Same.refl _) (by rw [str_len]; omega)⟩⟩
    refine ⟨_, rfl, rfl, _, rfl, ite2 (fun _ => ?_) (fun _ => ?_)⟩
    · refine ⟨_, rfl, _, rfl, rfl, z, _, rfl, rfl, _, _, rfl, rfl, _, rfl, z, rfl, by omega, fun y1 h1 => ⟨y1, 11, rfl, rfl, by decide, by decide, by omega, fun r hr' => ?_⟩⟩
      have l11 : y1.length * (11 : Int).toNat ≤ 110 * 11 := Nat.mul_le_mul (by omega) (by decide)
      exact ⟨_, rfl, r, rfl, by omega, fun y2 h2 => q H _ (Same.refl _) (by omega)⟩
    refine ⟨_, rfl, rfl, _, rfl, ite2 (fun _ => ?_) (fun _ => ?_)⟩
    · exact ⟨_, _, rfl, rfl, (by decide +kernel), q H _ (Same.refl _) (by decide +kernel)⟩
    refine ⟨_, rfl, rfl, _, rfl, ite2 (fun _ => ?_) (fun _ => ?_)⟩
    · refine ⟨(by show 5 ≤ sizeLine; omega), fun l nl => ⟨_, rfl, _, _, rfl, rfl, (by show (0 : Int) < 5; decide), ?_⟩⟩
      have h5 : ∀ x : Int, x % 5 = 0 ∨ x % 5 = 1 ∨ x % 5 = 2 ∨ x % 5 = 3 ∨ x % 5 = 4 := fun x => by omega
      rcases h5 (n / 11 / ((z.length : Nat) : Int)) with e | e | e | e | e
      · exact ⟨l, _, _, _, rfl, rfl, SqL.of upd_same, (by show atI _ ((n / 11 / ((z.length : Nat) : Int)) % 5) = _; rw [e]; exact atI_nat (j := 0) rfl), q _ _ (Same.upd nl) (by decide +kernel)⟩
      · exact ⟨l, _, _, _, rfl, rfl, SqL.of upd_same, (by show atI _ ((n / 11 / ((z.length : Nat) : Int)) % 5) = _; rw [e]; exact atI_nat (j := 1) rfl), q _ _ (Same.upd nl) (by decide +kernel)⟩
      · exact ⟨l, _, _, _, rfl, rfl, SqL.of upd_same, (by show atI _ ((n / 11 / ((z.length : Nat) : Int)) % 5) = _; rw [e]; exact atI_nat (j := 2) rfl), q _ _ (Same.upd nl) (by decide +kernel)⟩
      · exact ⟨l, _, _, _, rfl, rfl, SqL.of upd_same, (by show atI _ ((n / 11 / ((z.length : Nat) : Int)) % 5) = _; rw [e]; exact atI_nat (j := 3) rfl), q _ _ (Same.upd nl) (by decide +kernel)⟩
      · exact ⟨l, _, _, _, rfl, rfl, SqL.of upd_same, (by show atI _ ((n / 11 / ((z.length : Nat) : Int)) % 5) = _; rw [e]; exact atI_nat (j := 4) rfl), q _ _ (Same.upd nl) (by decide +kernel)⟩
    · refine ⟨_, rfl, _, rfl, _, rfl, z, rfl, by omega, fun y1 h1 => ⟨_, rfl, _, _, rfl, rfl, (by show (0 : Int) < 6; decide), ix_mod _ _ 6 (by decide +kernel) (by decide) (by decide) fun c => ⟨y1, _, rfl, rfl, (by rw [one]; omega), ?_⟩⟩⟩
      exact ⟨_, rfl, _, rfl, _, _, rfl, rfl, _, rfl, z, rfl, by omega, fun y2 h2 => ⟨_, y2, rfl, rfl, (by rw [str_len, one]; omega), q H _ (Same.refl _) (by rw [str_len, str_len, one]; omega)⟩⟩
end
end K13

set_option maxHeartbeats 4000000
namespace Bd
open PySem L2 Builtin Builtin.Str
theorem sg_cps : (Str.ofString ".12").cps = #[46, 49, 50] := by decide +kernel
theorem sub_c (c i v : Nat) (h : (#[46, 49, 50] : Array Nat).extract i (i + 1) = #[v]) : subAt (Str.ofString ".12") ⟨#[c]⟩ i = (v == c) := by
  unfold subAt
  rw [sg_cps]
  show ((#[46, 49, 50] : Array Nat).extract i (i + 1) == #[c]) = _
  rw [h]
  by_cases e : v = c
  · subst e; simp
  · simp
theorem oc_c (c : Nat) : occurrences (Str.ofString ".12") ⟨#[c]⟩ 0 3 1 = if c = 46 then [0] else if c = 49 then [1] else if c = 50 then [2] else [] := by
  have l1 : Str.length ⟨#[c]⟩ = 1 := rfl
  have s0 := sub_c c 0 46 (by decide)
  have s1 := sub_c c 1 49 (by decide)
  have s2 := sub_c c 2 50 (by decide)
  unfold occurrences
  simp only [Id.run, Std.Legacy.Range.forIn_eq_forIn_range', Std.Legacy.Range.size]
  simp [l1, List.range'_succ, s0, s1, s2]
  by_cases h1 : c = 46
  · subst h1; simp; rfl
  · by_cases h2 : c = 49
    · subst h2; simp; rfl
    · by_cases h3 : c = 50
      · subst h3; simp; rfl
      · have e1 : ¬ 46 = c := fun z => h1 z.symm
        have e2 : ¬ 49 = c := fun z => h2 z.symm
        have e3 : ¬ 50 = c := fun z => h3 z.symm
        simp [h1, h2, h3, e1, e2, e3]
        rfl
/-- what a sign writes: the owner, or -1 -/
def sgn (c : Nat) : Int := if c = 46 then 0 else if c = 49 then 1 else if c = 50 then 2 else -1
theorem find_c (c : Nat) : findS (Str.ofString ".12") ⟨#[c]⟩ = sgn c := by
  unfold findS
  rw [show (Str.ofString ".12").length = 3 by decide +kernel, oc_c]
  unfold sgn
  by_cases h1 : c = 46
  · rw [if_pos h1, if_pos h1]; rfl
  · rw [if_neg h1, if_neg h1]
    by_cases h2 : c = 49
    · rw [if_pos h2, if_pos h2]; rfl
    · rw [if_neg h2, if_neg h2]
      by_cases h3 : c = 50
      · rw [if_pos h3, if_pos h3]; rfl
      · rw [if_neg h3, if_neg h3]
theorem notin_c (c : Nat) : (!(!(occurrences (Str.ofString ".12") ⟨#[c]⟩ 0 (Str.ofString ".12").length 1).isEmpty)) = decide (sgn c = -1) := by
  rw [show (Str.ofString ".12").length = 3 by decide +kernel, oc_c]
  unfold sgn
  by_cases h1 : c = 46
  · simp [h1]
  · by_cases h2 : c = 49
    · simp [h2]
    · by_cases h3 : c = 50
      · simp [h3]
      · simp [h1, h2, h3]
theorem sgn_4 (c : Nat) : sgn c = -1 ∨ sgn c = 0 ∨ sgn c = 1 ∨ sgn c = 2 := by
  unfold sgn
  split
  · omega
  · split
    · omega
    · split <;> omega
theorem dot_c (c : Nat) : (⟨#[c]⟩ : Str) = Str.ofString "." ↔ sgn c = 0 := by
  have e : Str.ofString "." = ⟨#[46]⟩ := by decide +kernel
  rw [e]
  unfold sgn
  constructor
  · intro z
    injection z with z
    have : c = 46 := by simpa using z
    rw [if_pos this]
  · intro z
    by_cases h1 : c = 46
    · rw [h1]
    · rw [if_neg h1] at z
      by_cases h2 : c = 49
      · rw [if_pos h2] at z; omega
      · rw [if_neg h2] at z
        by_cases h3 : c = 50
        · rw [if_pos h3] at z; omega
        · rw [if_neg h3] at z; omega
end Bd
namespace K13
open PySem L2 Bd Builtin Builtin.Str
/-- the parts of a text -/
def parts (z : Str) : List Str := Txt.split z (Str.ofString "\n")
def spLines (D : Ads) : Sp := fun vs H Q E => ∃ z : Str, vs = [.str z] ∧ z.length ≤ 2000 ∧ (∀ l H' ls, Same H H' → H l = none → H' l = some (.lst (ls.map V.str)) → parts z = ls ++ [Str.ofString ""] → ls ≠ [] → Q (.ref l) H') ∧
  (∀ H', Same H H' → (∀ ls, parts z = ls ++ [Str.ofString ""] → ls = []) → E (.ref D.NB) none H')
section
variable {P : Program} {w : World} {K : PySem.W.Frag} {mg : Str → Option Value} {base : Heap} {D : Ads}
theorem scLines : FnScope ["text", "parts"] ["text"] (defScope sLinesOf) := ⟨rfl, rfl, rfl, by decide +kernel, rfl, by decide +kernel, by decide +kernel⟩
theorem ok_lines {f : Addr} {fd : FuncData} (F : Fun K "lines_of" "lines_of" sLinesOf f fd) (T : Txt K mg D) : FnOk P w K mg base (CX1 P w) 1 f fd ["text"] (spLines D) := by
  refine F.ok1 scLines (fun vs H Q E h => ?_) (fun cdv A outer s H vs Q E hr h => ?_)
  · obtain ⟨z, rfl, _⟩ := h
    rfl
  · obtain ⟨z, rfl, hz, q, qe⟩ := h
    have sl : 4000 ≤ sizeLine := by rw [sizeLine_eq]; decide
    have ol := PySem.StrLaws.occ_length_le z (Str.ofString "\n") 0 z.length (z.length + 1)
    have pl := PyProof.Rows.split_le z (Str.ofString "\n")
    have pp := PyProof.Rows.split_pos z (Str.ofString "\n")
    refine ⟨_, pss_cons (ps_set (i := 1) scLines.nd rfl (Or.inl rfl) (pe_bm PySem.F.plainAttrs_str PySem.F.slot_str_split PySem.F.type_str_split mt_split (pv 0) (pa_cons pe_str pa_nil)))
      (pss_cons (ps_if (pt_cmpR op_ne (pe_bm0 PySem.F.plainAttrs_list PySem.F.slot_list_pop PySem.F.type_list_pop mt_pop (pv 1)) pe_str (nomark _)) (pss_one (ps_raise hr.hd T.xNB rfl)) pss_nil)
      (pss_cons (ps_if (pt_cmpR op_eq (pe_callB call_len_seq rfl T.len PySem.boot_len (pa_cons (pv 1) pa_nil)) pe_int (nomark _)) (pss_one (ps_raise hr.hd T.xNB rfl)) pss_nil)
      (pss_one (ps_ret (pv 1))))), ?_⟩
    refine ⟨_, rfl, rfl, z, _, rfl, rfl, (by decide +kernel), by omega, (by rw [PyProof.Rows.len_partsBetween]; omega), by omega, fun l nl => ?_⟩
    have ne : parts z ≠ [] := fun e => by
      have : (parts z).length = 0 := by rw [e]; rfl
      unfold parts at this
      omega
    obtain ⟨ls, lt, ep⟩ : ∃ ls lt, parts z = ls ++ [lt] := ⟨(parts z).dropLast, (parts z).getLast ne, (List.dropLast_concat_getLast ne).symm⟩
    show tSeq _ _ _ _ (upd H l (.lst ((parts z).map V.str)))
    rw [ep]
    have s1 : Same H (upd H l (.lst ((ls ++ [lt]).map V.str))) := Same.upd nl
    have e1 : (upd H l (.lst ((ls ++ [lt]).map V.str))) l = some (.lst ((ls ++ [lt]).map V.str)) := upd_same
    have uu : ∀ xs, upd (upd H l (.lst ((ls ++ [lt]).map V.str))) l (.lst xs) = upd H l (.lst xs) := fun xs => upd_upd
    refine ⟨_, rfl, .inl ⟨rfl, _, SqL.of e1⟩, l, _, .str lt, rfl, rfl, e1, (by rw [List.map_append]; simp), rfl, _, rfl, ?_⟩
    have dl : ((ls ++ [lt]).map V.str).dropLast = ls.map V.str := by rw [List.map_append]; exact List.dropLast_concat
    rw [dl, uu]
    have s2 : Same H (upd H l (.lst (ls.map V.str))) := Same.upd nl
    refine ite2 (fun e => ?_) (fun e => ?_)
    · refine qe _ s2 fun ls' e' => ?_
      rw [ep] at e'
      have := (List.append_inj' e' rfl).2
      have e3 : lt = Str.ofString "" := by simpa using this
      rw [e3] at e
      simp at e
    · have e3 : lt = Str.ofString "" := by simpa using e
      subst e3
      refine ⟨_, rfl, l, _, rfl, .inl (SqL.of upd_same), rfl, _, rfl, ite2 (fun e4 => ?_) (fun e4 => ?_)⟩
      · refine qe _ s2 fun ls' e' => ?_
        rw [ep] at e'
        have := (List.append_inj' e' rfl).1
        rw [← this]
        simpa using e4
      · exact ⟨_, rfl, q l _ ls s2 nl upd_same ep (fun z => by rw [z] at e4; simp at e4)⟩
end
end K13

set_option maxHeartbeats 4000000
namespace K13
open PySem L2 Bd Builtin Builtin.Str
/-- the row r as the first j signs of z write it -/
def rowO (own : Nat × Nat → Int) (r : Nat) (z : Str) (j : Nat) : Nat × Nat → Int := fun p => if p.1 = r ∧ p.2 < j then sgn (z.cps.getD p.2 0) else own p
def spReadLine (D : Ads) : Sp := fun vs H Q E => ∃ (p d : Addr) (R C r : Nat) (own : Nat × Nat → Int) (z : Str), vs = [.ref p, .int r, .str z] ∧ R ≤ 10 ∧ C ≤ 10 ∧ BoardAt D.CB H p d R C own ∧ r < R ∧ z.length = C ∧ (∀ c, own (r, c) = 0) ∧
  ((∀ j, j < C → sgn (z.cps.getD j 0) ≠ -1) → ∀ H', But d H H' → BoardAt D.CB H' p d R C (rowO own r z C) → Q .non H') ∧ ((∃ j, j < C ∧ sgn (z.cps.getD j 0) = -1) → ∀ H', But d H H' → E (.ref D.NB) none H')
section
variable {P : Program} {w : World} {K : PySem.W.Frag} {mg : Str → Option Value} {base : Heap} {D : Ads}
theorem scReadLine : FnScope ["board", "row", "line", "column", "owner"] ["board", "row", "line"] (defScope sReadLine) := ⟨rfl, rfl, rfl, by decide +kernel, rfl, by decide +kernel, by decide +kernel⟩
theorem ok_readLine {f fP : Addr} {fd fdP : FuncData} (F : Fun K "read_line" "read_line" sReadLine f fd) (T : Txt K mg D) (hsg : ∃ t, mg "SIGNS" = some (.str (Str.ofString ".12") t))
    (GP : FnOk P w K mg base (CX1 P w) 2 fP fdP ["self", "cell", "hand"] (spPut D)) (bP : Binds K fdP ["self", "cell", "hand"] []) (mP : Meth K D.CB "put" fP) :
    FnOk P w K mg base (CX1 P w) 3 f fd ["board", "row", "line"] (spReadLine D) := by
  refine F.ok1 scReadLine (fun vs H Q E h => ?_) (fun cdv A outer s H vs Q E hr h => ?_)
  · obtain ⟨p, d, R, C, r, own, z, rfl, _⟩ := h
    rfl
  · obtain ⟨p, d, R, C, r, own, z, rfl, hR, hC, B, hrR, hzC, h0, q, qe⟩ := h
    obtain ⟨tg, hg⟩ := hsg
    have hRC : R * C ≤ 100 := Nat.mul_le_mul hR hC
    have sl : 4000 ≤ sizeLine := by rw [sizeLine_eq]; decide
    refine ⟨_, pss_one (ps_for PassesOwn.leaving rfl (pi_range1 rfl T.rng (pa_cons (pe_callB call_len_str rfl T.len PySem.boot_len (pa_cons (pv 2) pa_nil)) pa_nil)) (pg_name (i := 3) scReadLine.nd rfl (Or.inl rfl))
      (pss_cons (ps_set (i := 4) scReadLine.nd rfl (Or.inl rfl) (pe_bm PySem.F.plainAttrs_str PySem.F.slot_str_find PySem.F.type_str_find mt_find (pe_glob (v := .str (Str.ofString ".12")) rfl hg ⟨_, rfl⟩) (pa_cons (pe_ix ix_str (pv 2) (pv 3) (fun _ _ => rfl)) pa_nil)))
      (pss_cons (ps_if (pt_cmpR op_lt (pv 4) pe_int (nomark _)) (pss_one (ps_raise hr.hd T.xNB rfl)) pss_nil)
      (pss_one (ps_if (pt_cmpR op_gt (pv 4) pe_int (nomark _)) (pss_one (ps_expr (pe_meth (pv 0) T.cl mP GP hr bP .nil pass1 (pa_cons (pe_tup (pa_cons (pv 1) (pa_cons (pv 3) pa_nil))) (pa_cons (pv 4) pa_nil))))) pss_nil))))), ?_⟩
    refine ⟨_, rfl, z, rfl, by omega, (z.length : Int), rfl, by omega, by omega, ?_⟩
    rw [Int.toNat_natCast]
    refine for_range (n := z.length) (fun j σ H2 => ∃ v3 v4, σ = [some (.ref p), some (.int r), some (.str z), v3, v4] ∧ But d H H2 ∧ BoardAt D.CB H2 p d R C (rowO own r z j) ∧ ∀ i, i < j → sgn (z.cps.getD i 0) ≠ -1) ?_ ?_ ?_
    · refine ⟨none, none, rfl, fun b o e _ => e, ?_, fun i hi => by omega⟩
      have : rowO own r z 0 = own := by funext x; unfold rowO; rw [if_neg (fun y => by omega)]
      rw [this]
      exact B
    · rintro j σ H2 hj ⟨v3, v4, rfl, k2, B2, hs⟩
      have hl : z.cps.toList.length = z.length := by rw [Array.length_toList]; rfl
      have gj : z.cps.toList[j]? = some (z.cps.getD j 0) := by
        rw [Array.getElem?_toList]
        have hj' : j < z.cps.size := hj
        simp [Array.getD, hj']
      have ix : atI z.cps.toList (0 + (j : Int)) = some (z.cps.getD j 0) := by rw [Int.zero_add]; exact atI_nat gj
      refine ⟨rfl, _, rfl, _, rfl, z, _, _, rfl, rfl, by omega, ix, _, _, rfl, rfl, ?_⟩
      have fc := find_c (z.cps.getD j 0)
      dsimp only
      rw [fc]
      have s4 := sgn_4 (z.cps.getD j 0)
      refine ⟨_, rfl, _, _, rfl, rfl, _, rfl, ite2 (fun e => ?_) (fun e => ?_)⟩
      · have e : sgn (z.cps.getD j 0) < 0 := by simpa using e
        exact qe ⟨j, by omega, by omega⟩ H2 k2
      · have e : ¬ sgn (z.cps.getD j 0) < 0 := by simpa using e
        have nx : ∀ i, i < j + 1 → sgn (z.cps.getD i 0) ≠ -1 := fun i hi => by
          by_cases y : i < j
          · exact hs i y
          · obtain rfl : i = j := by omega
            omega
        refine ⟨_, rfl, _, _, rfl, rfl, _, rfl, ite2 (fun e2 => ?_) (fun e2 => ?_)⟩
        · have e2 : sgn (z.cps.getD j 0) > 0 := by simpa using e2
          obtain ⟨dx, hp⟩ := B2.ob
          have npd : p ≠ d := ne_of hp B2.dc (fun z => nomatch z)
          have hb : inB R C (r : Int) (0 + (j : Int)) := by unfold inB; omega
          refine ⟨_, rfl, p, dx, _, rfl, hp, bflds_no _ _ _ (by decide +kernel) (by decide +kernel) (by decide +kernel), _, rfl, _, rfl, (by show 2 ≤ sizeLine; omega), fun t nt => ?_⟩
          have s5 : Same H2 (upd H2 t (.tup [.int r, .int (0 + (j : Int))])) := Same.upd nt
          have ct : CellAt (upd H2 t (.tup [.int r, .int (0 + (j : Int))])) t r (0 + (j : Int)) := upd_same
          generalize upd H2 t (.tup [.int r, .int (0 + (j : Int))]) = H3 at s5 ct ⊢
          have B3 := B2.mono s5
          have o0 : rowO own r z j ((r : Int).toNat, (0 + (j : Int)).toNat) = 0 := by
            unfold rowO
            rw [if_neg (fun y => by omega)]
            exact h0 _
          refine ⟨_, rfl, p, d, t, R, C, _, (r : Int), 0 + (j : Int), sgn (z.cps.getD j 0), rfl, hRC, B3, ct, fun y => absurd hb y, fun _ y => absurd (by omega) y, fun _ _ y => absurd o0 y, fun _ _ _ => ?_⟩
          have k3 := But.upd (H := H3) (a := d) (o := .dT (kvsOf R C (setO (rowO own r z j) r (0 + (j : Int)) (sgn (z.cps.getD j 0)))))
          have en : setO (rowO own r z j) r (0 + (j : Int)) (sgn (z.cps.getD j 0)) = rowO own r z (j + 1) := by
            funext x
            obtain ⟨a, b⟩ := x
            show (if (a, b) = ((r : Int).toNat, (0 + (j : Int)).toNat) then _ else rowO own r z j (a, b)) = rowO own r z (j + 1) (a, b)
            rw [show ((r : Int).toNat, (0 + (j : Int)).toNat) = (r, j) by rw [Int.toNat_natCast, Int.zero_add, Int.toNat_natCast]]
            by_cases y : (a, b) = (r, j)
            · rw [if_pos y]
              injection y with y1 y2
              unfold rowO
              rw [if_pos ⟨y1, by show b < j + 1; omega⟩]
              show _ = sgn (z.cps.getD b 0)
              rw [y2]
            · rw [if_neg y]
              have ny : ¬ (a = r ∧ b = j) := fun w => y (by rw [w.1, w.2])
              unfold rowO
              by_cases u : a = r ∧ b < j
              · rw [if_pos u, if_pos ⟨u.1, by show b < j + 1; omega⟩]
              · rw [if_neg u, if_neg (fun w => u ⟨w.1, by have := w.2; have : b < j + 1 := this; omega⟩)]
          refine ⟨_, _, rfl, fun b o hb' hn => k3 b o (s5 b o (k2 b o hb' hn)) hn, ?_, nx⟩
          rw [← en]
          obtain ⟨dx3, hp3⟩ := B3.ob
          exact ⟨⟨dx3, k3 _ _ hp3 npd⟩, upd_same⟩
        · have e3 : sgn (z.cps.getD j 0) = 0 := by
            have : ¬ sgn (z.cps.getD j 0) > 0 := by simpa using e2
            omega
          have en : rowO own r z j = rowO own r z (j + 1) := by
            funext x
            obtain ⟨a, b⟩ := x
            unfold rowO
            by_cases u : a = r ∧ b < j
            · rw [if_pos u, if_pos ⟨u.1, by show b < j + 1; omega⟩]
            · rw [if_neg u]
              by_cases v : a = r ∧ b < j + 1
              · rw [if_pos v]
                have e4 : b = j := by omega
                show own (a, b) = sgn (z.cps.getD b 0)
                rw [e4, e3, v.1]
                exact h0 _
              · rw [if_neg v]
          exact ⟨_, _, rfl, k2, by rw [← en]; exact B2, nx⟩
    · rintro σ H2 ⟨v3, v4, rfl, k2, B2, hs⟩
      rw [hzC] at B2 hs
      exact q hs H2 k2 B2
end
end K13

set_option maxHeartbeats 4000000
namespace K13
open PySem L2 Bd Builtin Builtin.Str
theorem sub_len (x : Str) (a b : Nat) : (strSub x a b).length ≤ x.length := by
  unfold strSub
  show (x.cps.extract a b).size ≤ x.cps.size
  simp
  omega
theorem part_len (x y : Str) : ∀ p ∈ Txt.split x y, p.length ≤ x.length := by
  intro p hp
  unfold Txt.split at hp
  split at hp
  · rw [List.mem_singleton.mp hp]; exact Nat.le_refl _
  · split at hp
    · rw [List.mem_singleton.mp hp]; exact Nat.le_refl _
    · unfold partsBetween at hp
      obtain ⟨⟨a, b⟩, _, rfl⟩ := List.mem_map.mp hp
      exact sub_len x a b
/-- the i-th line -/
def line (ls : List Str) (i : Nat) : Str := ls.getD i Str.empty
/-- the text writes a board of R rows and C columns by the lines ls -/
structure Wr (z : Str) (ls : List Str) (R C : Nat) : Prop where
  cut : parts z = ls ++ [Str.ofString ""]
  rows : ls.length = R
  r1 : 1 ≤ R
  r2 : R ≤ 10
  c1 : 1 ≤ C
  c2 : C ≤ 10
  len : ∀ i, i < R → (line ls i).length = C
  sg : ∀ i j, i < R → j < C → sgn ((line ls i).cps.getD j 0) ≠ -1
def ownOf (ls : List Str) (n : Nat) : Nat × Nat → Int := fun p => if p.1 < n ∧ p.2 < (line ls 0).length then sgn ((line ls p.1).cps.getD p.2 0) else 0
def spRead (D : Ads) : Sp := fun vs H Q E => ∃ z : Str, vs = [.str z] ∧ z.length ≤ 2000 ∧ (∀ ls R C, Wr z ls R C → ∀ p d H', Same H H' → H p = none → H d = none → BoardAt D.CB H' p d R C (ownOf ls R) → Q (.ref p) H') ∧
  ((¬ ∃ ls R C, Wr z ls R C) → ∀ H', Same H H' → E (.ref D.NB) none H')
section
variable {P : Program} {w : World} {K : PySem.W.Frag} {mg : Str → Option Value} {base : Heap} {D : Ads}
theorem scRead : FnScope ["text", "lines", "board", "row"] ["text"] (defScope sRead) := ⟨rfl, rfl, rfl, by decide +kernel, rfl, by decide +kernel, by decide +kernel⟩
theorem ok_read {f fI fL fY fN : Addr} {fd fdI fdL fdY fdN : FuncData} (F : Fun K "read" "read" sRead f fd) (T : Txt K mg D) (M : Mk K D.CB fI)
    (GI : FnOk P w K mg base (CX1 P w) 2 fI fdI ["self", "rows", "columns"] (spInit D)) (bI : Binds K fdI ["self", "rows", "columns"] [])
    (GL : FnOk P w K mg base (CX1 P w) 1 fL fdL ["text"] (spLines D)) (kL : PySem.W.keepIn K (.ref fL) = true) (bL : Binds K fdL ["text"] []) (mL : mg "lines_of" = some (.ref fL))
    (GY : FnOk P w K mg base (CX1 P w) 1 fY fdY ["self"] (spSize D fun _ C => C)) (bY : Binds K fdY ["self"] []) (mY : Meth K D.CB "columns" fY)
    (GN : FnOk P w K mg base (CX1 P w) 3 fN fdN ["board", "row", "line"] (spReadLine D)) (kN : PySem.W.keepIn K (.ref fN) = true) (bN : Binds K fdN ["board", "row", "line"] []) (mN : mg "read_line" = some (.ref fN)) :
    FnOk P w K mg base (CX1 P w) 4 f fd ["text"] (spRead D) := by
  refine F.ok1 scRead (fun vs H Q E h => ?_) (fun cdv A outer s H vs Q E hr h => ?_)
  · obtain ⟨z, rfl, _⟩ := h
    rfl
  · obtain ⟨z, rfl, hz, q, qe⟩ := h
    have hr1 : Room 1 _ := hr.mono (by decide)
    have sl : 4000 ≤ sizeLine := by rw [sizeLine_eq]; decide
    refine ⟨_, pss_cons (ps_set (i := 1) scRead.nd rfl (Or.inl rfl) (pe_call GL hr1 rfl mL kL bL .nil pass1 (pa_cons (pv 0) pa_nil)))
      (pss_cons (ps_set (i := 2) scRead.nd rfl (Or.inl rfl) (pe_make M GI hr rfl T.mgB bI .nil pass1 (pa_cons (pe_callB call_len_seq rfl T.len PySem.boot_len (pa_cons (pv 1) pa_nil)) (pa_cons (pe_callB call_len_str rfl T.len PySem.boot_len (pa_cons (pe_ix ix_list (pv 1) pe_int (fun _ _ => rfl)) pa_nil)) pa_nil))))
      (pss_cons (ps_for PassesOwn.leaving rfl (pi_range1 rfl T.rng (pa_cons (pe_callB call_len_seq rfl T.len PySem.boot_len (pa_cons (pv 1) pa_nil)) pa_nil)) (pg_name (i := 3) scRead.nd rfl (Or.inl rfl))
        (pss_cons (ps_if (pt_cmpR op_ne (pe_callB call_len_str rfl T.len PySem.boot_len (pa_cons (pe_ix ix_list (pv 1) (pv 3) (fun _ _ => rfl)) pa_nil)) (pe_meth0 (pv 2) T.cl mY GY hr1 bY .nil passN) (nomark _)) (pss_one (ps_raise hr.hd T.xNB rfl)) pss_nil)
        (pss_one (ps_expr (pe_call GN hr rfl mN kN bN .nil pass1 (pa_cons (pv 2) (pa_cons (pv 3) (pa_cons (pe_ix ix_list (pv 1) (pv 3) (fun _ _ => rfl)) pa_nil))))))))
      (pss_one (ps_ret (pv 2))))), ?_⟩
    refine ⟨_, rfl, z, rfl, hz, fun l H1 ls s1 nl e1 ep ne => ?_, fun H1 s1 no => qe (fun ⟨ls, R, C, wr⟩ => ?_) H1 s1⟩
    · have lp : ∀ i, i < ls.length → (line ls i).length ≤ 2000 := fun i hi => by
        have m : line ls i ∈ parts z := by
          rw [ep]
          refine List.mem_append_left _ ?_
          unfold line
          rw [List.getD_eq_getElem?_getD, List.getElem?_eq_getElem hi]
          exact List.getElem_mem hi
        exact Nat.le_trans (part_len z _ _ m) hz
      have pos : 0 < ls.length := List.length_pos_iff.mpr ne
      have at_ : ∀ i, i < ls.length → atI (ls.map V.str) (i : Int) = some (.str (line ls i)) := fun i hi => atI_nat (by
        unfold line
        rw [List.getElem?_map, List.getD_eq_getElem?_getD, List.getElem?_eq_getElem hi]
        rfl)
      have uniq : ∀ ls' R C, Wr z ls' R C → ls' = ls ∧ R = ls.length ∧ C = (line ls 0).length := fun ls' R C wr => by
        have e := wr.cut
        rw [ep] at e
        have e2 : ls' = ls := (List.append_inj' e rfl).1.symm
        subst e2
        exact ⟨rfl, wr.rows.symm, (wr.len 0 (by have := wr.r1; omega)).symm⟩
      refine ⟨_, rfl, l, _, rfl, .inl (SqL.of e1), _, rfl, l, _, _, _, rfl, rfl, SqL.of e1, at_ 0 pos, line ls 0, rfl, (by have := lp 0 pos; omega), fun p dx np ndx nex => ?_⟩
      refine ⟨p, dx, _, _, rfl, upd_same, fun R C e2 e3 r1 r2 c1 c2 d H2 nd B kp => ⟨rfl, ?_⟩, fun no => qe (fun ⟨ls', R, C, wr⟩ => no ?_) _ ?_⟩
      · have eR : ls.length = R := by rw [List.length_map] at e2; exact Int.ofNat.inj e2
        have eC : (line ls 0).length = C := Int.ofNat.inj e3
        have s2 : Same H1 H2 := fun b u e => kp b u (by rw [upd_ne (ne_of_none e np), upd_ne (ne_of_none e ndx)]; exact e) (ne_of_none e np)
        have ndH : H1 d = none := by
          cases y : H1 d with
          | none => rfl
          | some u => rw [upd_ne (ne_of_none y np), upd_ne (ne_of_none y ndx), y] at nd; cases nd
        refine ⟨_, rfl, l, _, rfl, .inl (SqL.of (s2 _ _ e1)), ((ls.map V.str).length : Int), rfl, by rw [List.length_map]; omega, by rw [List.length_map]; omega, ?_⟩
        rw [Int.toNat_natCast, List.length_map, eR]
        refine for_range (n := R) (fun i σ H3 => ∃ v3, σ = [some (.str z), some (.ref l), some (.ref p), v3] ∧ Same H1 H3 ∧ BoardAt D.CB H3 p d R C (ownOf ls i) ∧ ∀ i', i' < i → (line ls i').length = C ∧ ∀ j, j < C → sgn ((line ls i').cps.getD j 0) ≠ -1) ?_ ?_ ?_
        · refine ⟨none, rfl, s2, ?_, fun i' hi' => by omega⟩
          have : ownOf ls 0 = fun _ => 0 := by funext x; unfold ownOf; rw [if_neg (fun y => by omega)]
          rw [this]
          exact B
        · rintro i σ H3 hi ⟨v3, rfl, s3, B3, al⟩
          have hi' : i < ls.length := by omega
          have e3' := s3 _ _ e1
          have ix : atI (ls.map V.str) (0 + (i : Int)) = some (.str (line ls i)) := by rw [Int.zero_add]; exact at_ i hi'
          obtain ⟨dx3, hp3⟩ := B3.ob
          refine ⟨_, rfl, _, rfl, l, _, _, _, rfl, rfl, SqL.of e3', ix, line ls i, rfl, (by have := lp i hi'; omega), _, rfl, p, dx3, _, rfl, hp3, bflds_no _ _ _ (by decide +kernel) (by decide +kernel) (by decide +kernel), p, d, R, C, _, rfl, B3, rfl, _, rfl, ite2 (fun e => ?_) (fun e => ?_)⟩
          · refine qe (fun ⟨ls', R', C', wr⟩ => ?_) H3 (s1.trans s3)
            obtain ⟨u1, u2, u3⟩ := uniq ls' R' C' wr
            subst u1
            have := wr.len i (by omega)
            simp at e
            omega
          · have elen : (line ls i).length = C := by
              simp at e
              omega
            refine ⟨_, rfl, _, rfl, _, rfl, _, rfl, l, _, _, _, rfl, rfl, SqL.of e3', ix, ?_⟩
            refine ⟨p, d, R, C, i, ownOf ls i, line ls i, (by rw [Int.zero_add]; rfl), r2, c2, B3, hi, elen, fun c => by unfold ownOf; rw [if_neg (fun y => by have := y.1; exact absurd this (Nat.lt_irrefl _))], fun ok H4 k4 B4 => ?_, fun ⟨j, hj, bad⟩ H4 k4 => ?_⟩
            · refine ⟨_, rfl, k4.same s3 ndH, ?_, fun i' h' => ?_⟩
              · have en : rowO (ownOf ls i) i (line ls i) C = ownOf ls (i + 1) := by
                  funext x
                  obtain ⟨a, b⟩ := x
                  unfold rowO ownOf
                  dsimp only
                  rw [eC]
                  by_cases u : a = i ∧ b < C
                  · rw [if_pos u, if_pos ⟨by omega, u.2⟩, u.1]
                  · rw [if_neg u]
                    by_cases v : a < i ∧ b < C
                    · rw [if_pos v, if_pos ⟨by omega, v.2⟩]
                    · rw [if_neg v, if_neg (fun y => by omega)]
                rw [← en]
                exact B4
              · by_cases y : i' < i
                · exact al i' y
                · obtain rfl : i' = i := by omega
                  exact ⟨elen, ok⟩
            · refine qe (fun ⟨ls', R', C', wr⟩ => ?_) H4 (s1.trans (k4.same s3 ndH))
              obtain ⟨u1, u2, u3⟩ := uniq ls' R' C' wr
              subst u1
              exact wr.sg i j (by omega) (by omega) bad
        · rintro σ H3 ⟨v3, rfl, s3, B3, al⟩
          exact ⟨_, rfl, q ls R C ⟨ep, eR, r1, r2, c1, c2, fun i hi => (al i hi).1, fun i j hi hj => (al i hi).2 j hj⟩ p d H3 (s1.trans s3) (s1.free np) (s1.free ndH) B3⟩
      · obtain ⟨u1, u2, u3⟩ := uniq ls' R C wr
        have a1 := wr.r1
        have a2 := wr.r2
        have a3 := wr.c1
        have a4 := wr.c2
        rw [List.length_map]
        omega
      · exact fun b o e => by rw [upd_ne (ne_of_none (s1 _ _ e) np), upd_ne (ne_of_none (s1 _ _ e) ndx)]; exact s1 _ _ e
    · have := no ls wr.cut
      have a1 := wr.r1
      have a2 := wr.rows
      rw [this] at a2
      simp at a2
      omega
end
end K13

set_option maxHeartbeats 4000000
namespace K13
open PySem L2 Bd Builtin Builtin.Str
def spDue : Sp := fun vs H Q _ => ∃ z : Str, vs = [.str z] ∧ z.length ≤ 2000 ∧ (∀ ls R C, Wr z ls R C → ∀ t o H' ks, Same H H' → H' t = some (.tup [.int R, .int C, .ref o]) → OD H' o R C (ownOf ls R) ks → Q (.ref t) H') ∧
  ((¬ ∃ ls R C, Wr z ls R C) → ∀ H', Same H H' → Q .non H')
theorem rowO_zero (own : Nat × Nat → Int) (r : Nat) (z : Str) : rowO own r z 0 = own := by
  funext x
  unfold rowO
  rw [if_neg (fun y => by omega)]
theorem rowO_put {own : Nat × Nat → Int} {r : Nat} {z : Str} {j : Nat} : setO (rowO own r z j) (0 + (r : Int)) (0 + (j : Int)) (sgn (z.cps.getD j 0)) = rowO own r z (j + 1) := by
  funext x
  obtain ⟨a, b⟩ := x
  show (if (a, b) = ((0 + (r : Int)).toNat, (0 + (j : Int)).toNat) then _ else rowO own r z j (a, b)) = rowO own r z (j + 1) (a, b)
  rw [show ((0 + (r : Int)).toNat, (0 + (j : Int)).toNat) = (r, j) by rw [Int.zero_add, Int.toNat_natCast, Int.zero_add, Int.toNat_natCast]]
  by_cases y : (a, b) = (r, j)
  · rw [if_pos y]
    injection y with y1 y2
    unfold rowO
    rw [if_pos ⟨y1, by show b < j + 1; omega⟩]
    show _ = sgn (z.cps.getD b 0)
    rw [y2]
  · rw [if_neg y]
    have ny : ¬ (a = r ∧ b = j) := fun w => y (by rw [w.1, w.2])
    unfold rowO
    by_cases u : a = r ∧ b < j
    · rw [if_pos u, if_pos ⟨u.1, by show b < j + 1; omega⟩]
    · rw [if_neg u, if_neg (fun w => u ⟨w.1, by have := w.2; have : b < j + 1 := this; omega⟩)]
theorem rowO_skip {own : Nat × Nat → Int} {r : Nat} {z : Str} {j : Nat} (h0 : ∀ c, own (r, c) = 0) (e3 : sgn (z.cps.getD j 0) = 0) : rowO own r z j = rowO own r z (j + 1) := by
  funext x
  obtain ⟨a, b⟩ := x
  unfold rowO
  by_cases u : a = r ∧ b < j
  · rw [if_pos u, if_pos ⟨u.1, by show b < j + 1; omega⟩]
  · rw [if_neg u]
    by_cases v : a = r ∧ b < j + 1
    · rw [if_pos v]
      have e4 : b = j := by omega
      show own (a, b) = sgn (z.cps.getD b 0)
      rw [e4, e3, v.1]
      exact h0 _
    · rw [if_neg v]
theorem rowO_all {ls : List Str} {C i : Nat} (eC : (line ls 0).length = C) : rowO (ownOf ls i) i (line ls i) C = ownOf ls (i + 1) := by
  funext x
  obtain ⟨a, b⟩ := x
  unfold rowO ownOf
  dsimp only
  rw [eC]
  by_cases u : a = i ∧ b < C
  · rw [if_pos u, if_pos ⟨by omega, u.2⟩, u.1]
  · rw [if_neg u]
    by_cases v : a < i ∧ b < C
    · rw [if_pos v, if_pos ⟨by omega, v.2⟩]
    · rw [if_neg v, if_neg (fun y => by omega)]
theorem ownOf_zero (ls : List Str) : ownOf ls 0 = fun _ => 0 := by
  funext x
  unfold ownOf
  rw [if_neg (fun y => by omega)]
theorem ownOf_row (ls : List Str) (i c : Nat) : ownOf ls i (i, c) = 0 := by
  unfold ownOf
  rw [if_neg (fun y => by have := y.1; exact absurd this (Nat.lt_irrefl _))]
section
variable {P : Program} {w : World} {K : PySem.W.Frag} {mg : Str → Option Value} {base : Heap} {D : Ads}
theorem scDue : FnScope ["text", "lines", "columns", "owners", "r", "c"] ["text"] (defScope sDue) := ⟨rfl, rfl, rfl, by decide +kernel, rfl, by decide +kernel, by decide +kernel⟩
theorem ok_due {f : Addr} {fd : FuncData} (F : Fun K "_law_due" "_law_due" sDue f fd) (T : Txt K mg D) : FnOk P w K mg base (CX1 P w) 1 f fd ["text"] spDue := by
  refine F.ok0 scDue (fun vs H Q E h => ?_) (fun cdv A outer s H vs Q E hr h => ?_)
  · obtain ⟨z, rfl, _⟩ := h
    rfl
  · obtain ⟨z, rfl, hz, q, qe⟩ := h
    have hu := hu_of hr
    have sl : 4000 ≤ sizeLine := by rw [sizeLine_eq]; decide
    have ol := PySem.StrLaws.occ_length_le z (Str.ofString "\n") 0 z.length (z.length + 1)
    have pl := PyProof.Rows.split_le z (Str.ofString "\n")
    have pp := PyProof.Rows.split_pos z (Str.ofString "\n")
    refine ⟨_, pss_cons (ps_set (i := 1) scDue.nd rfl (Or.inl rfl) (pe_bm PySem.F.plainAttrs_str PySem.F.slot_str_split PySem.F.type_str_split mt_split (pv 0) (pa_cons pe_str pa_nil)))
      (pss_cons (ps_if (PW.pt (pw_or (pt_cmpR op_ne (pe_ix ix_list (pv 1) (pe_un un_neg pe_int) (fun _ _ => rfl)) pe_str (nomark _))
          (pw_or (pt_cmpR op_lt (pe_callB call_len_seq rfl T.len PySem.boot_len (pa_cons (pv 1) pa_nil)) pe_int (nomark _)) (pw_or1 (pt_cmpR op_gt (pe_callB call_len_seq rfl T.len PySem.boot_len (pa_cons (pv 1) pa_nil)) pe_int (nomark _)))))) (pss_one (ps_ret pe_non)) pss_nil)
      (pss_cons (ps_set (i := 2) scDue.nd rfl (Or.inl rfl) (pe_callB call_len_str rfl T.len PySem.boot_len (pa_cons (pe_ix ix_list (pv 1) pe_int (fun _ _ => rfl)) pa_nil)))
      (pss_cons (ps_if (PW.pt (pw_or (pt_cmpR op_lt (pv 2) pe_int (nomark _)) (pw_or1 (pt_cmpR op_gt (pv 2) pe_int (nomark _))))) (pss_one (ps_ret pe_non)) pss_nil)
      (pss_cons (ps_set (i := 3) scDue.nd rfl (Or.inl rfl) pe_dnewT)
      (pss_cons (ps_for PassesOwn.never rfl (pi_range1 rfl T.rng (pa_cons (pe_op op_sub (pe_callB call_len_seq rfl T.len PySem.boot_len (pa_cons (pv 1) pa_nil)) pe_int) pa_nil)) (pg_name (i := 4) scDue.nd rfl (Or.inl rfl))
        (pss_cons (ps_if (pt_cmpR op_ne (pe_callB call_len_str rfl T.len PySem.boot_len (pa_cons (pe_ix ix_list (pv 1) (pv 4) (fun _ _ => rfl)) pa_nil)) (pv 2) (nomark _)) (pss_one (ps_ret pe_non)) pss_nil)
        (pss_one (ps_for PassesOwn.never rfl (pi_range1 rfl T.rng (pa_cons (pv 2) pa_nil)) (pg_name (i := 5) scDue.nd rfl (Or.inl rfl))
          (pss_cons (ps_if (pt_cmpR op_notin_str (pe_ix ix_str (pe_ix ix_list (pv 1) (pv 4) (fun _ _ => rfl)) (pv 5) (fun _ _ => rfl)) pe_str rfl) (pss_one (ps_ret pe_non)) pss_nil)
          (pss_one (ps_if (pt_cmpR op_ne (pe_ix ix_str (pe_ix ix_list (pv 1) (pv 4) (fun _ _ => rfl)) (pv 5) (fun _ _ => rfl)) pe_str (nomark _))
            (pss_one (ps_dput hu (pv 3) (pe_tup (pa_cons (pv 4) (pa_cons (pv 5) pa_nil))) (pe_bm PySem.F.plainAttrs_str PySem.F.slot_str_find PySem.F.type_str_find mt_find pe_str (pa_cons (pe_ix ix_str (pe_ix ix_list (pv 1) (pv 4) (fun _ _ => rfl)) (pv 5) (fun _ _ => rfl)) pa_nil)) rfl)) pss_nil))))))
        )
      (pss_one (ps_ret (pe_tup (pa_cons (pe_op op_sub (pe_callB call_len_seq rfl T.len PySem.boot_len (pa_cons (pv 1) pa_nil)) pe_int) (pa_cons (pv 2) (pa_cons (pv 3) pa_nil))))))))))), ?_⟩
    refine ⟨_, rfl, rfl, z, _, rfl, rfl, (by decide +kernel), by omega, (by rw [PyProof.Rows.len_partsBetween]; omega), by omega, fun l nl => ?_⟩
    have ne : parts z ≠ [] := fun e => by
      have : (parts z).length = 0 := by rw [e]; rfl
      unfold parts at this
      omega
    obtain ⟨ls, lt, ep⟩ : ∃ ls lt, parts z = ls ++ [lt] := ⟨(parts z).dropLast, (parts z).getLast ne, (List.dropLast_concat_getLast ne).symm⟩
    show tSeq _ _ _ _ (upd H l (.lst ((parts z).map V.str)))
    rw [ep]
    have mp : (ls ++ [lt]).map V.str = ls.map V.str ++ [.str lt] := by rw [List.map_append]; rfl
    rw [mp]
    have s1 : Same H (upd H l (.lst (ls.map V.str ++ [.str lt]))) := Same.upd nl
    have e1 : (upd H l (.lst (ls.map V.str ++ [.str lt]))) l = some (.lst (ls.map V.str ++ [.str lt])) := upd_same
    generalize upd H l (.lst (ls.map V.str ++ [.str lt])) = H1 at s1 e1 ⊢
    have ll : (ls.map V.str ++ [V.str lt]).length = ls.length + 1 := by simp
    have lp : ∀ i, i < ls.length → (line ls i).length ≤ 2000 := fun i hi => by
      have m : line ls i ∈ parts z := by
        rw [ep]
        refine List.mem_append_left _ ?_
        unfold line
        rw [List.getD_eq_getElem?_getD, List.getElem?_eq_getElem hi]
        exact List.getElem_mem hi
      exact Nat.le_trans (part_len z _ _ m) hz
    have at_ : ∀ i : Nat, i < ls.length → atI (ls.map V.str ++ [V.str lt]) (i : Int) = some (.str (line ls i)) := fun i hi => atI_nat (by
      rw [List.getElem?_append_left (by rw [List.length_map]; exact hi)]
      unfold line
      rw [List.getElem?_map, List.getD_eq_getElem?_getD, List.getElem?_eq_getElem hi]
      rfl)
    have uniq : ∀ ls' R C, Wr z ls' R C → lt = Str.ofString "" ∧ ls' = ls ∧ R = ls.length ∧ C = (line ls 0).length := fun ls' R C wr => by
      have e := wr.cut
      rw [ep] at e
      have e2 : ls' = ls := (List.append_inj' e rfl).1.symm
      have e3 : lt = Str.ofString "" := by simpa using (List.append_inj' e rfl).2
      subst e2
      exact ⟨e3, rfl, wr.rows.symm, (wr.len 0 (by have := wr.r1; omega)).symm⟩
    refine ⟨_, rfl, _, rfl, l, _, _, _, rfl, rfl, SqL.of e1, atI_last _ _, rfl, _, rfl, ite2 (fun e => ?_) (fun e => ?_)⟩
    · refine iteT (qe (fun ⟨ls', R, C, wr⟩ => ?_) H1 s1)
      obtain ⟨u0, _⟩ := uniq ls' R C wr
      rw [u0] at e
      simp at e
    have e3 : lt = Str.ofString "" := by simpa using e
    subst e3
    refine ⟨_, rfl, l, _, rfl, .inl (SqL.of e1), _, _, rfl, rfl, _, rfl, ite2 (fun e => ?_) (fun e => ?_)⟩
    · refine iteT (qe (fun ⟨ls', R, C, wr⟩ => ?_) H1 s1)
      obtain ⟨_, u1, u2, u3⟩ := uniq ls' R C wr
      have := wr.r1
      rw [ll] at e
      simp at e
      omega
    have pos : 0 < ls.length := by
      rw [ll] at e
      simp at e
      omega
    refine ⟨_, rfl, l, _, rfl, .inl (SqL.of e1), _, _, rfl, rfl, _, rfl, ite2 (fun e4 => ?_) (fun e4 => ?_)⟩
    · refine qe (fun ⟨ls', R, C, wr⟩ => ?_) H1 s1
      obtain ⟨_, u1, u2, u3⟩ := uniq ls' R C wr
      have := wr.r2
      rw [ll] at e4
      simp at e4
      omega
    have h10 : ls.length ≤ 10 := by
      rw [ll] at e4
      simp at e4
      omega
    refine ⟨_, rfl, l, _, _, _, rfl, rfl, SqL.of e1, at_ 0 pos, line ls 0, rfl, (by have := lp 0 pos; omega), ?_⟩
    refine ⟨_, rfl, _, _, rfl, rfl, _, rfl, ite2 (fun e5 => ?_) (fun e5 => ?_)⟩
    · refine iteT (qe (fun ⟨ls', R, C, wr⟩ => ?_) H1 s1)
      obtain ⟨_, u1, u2, u3⟩ := uniq ls' R C wr
      have := wr.c1
      simp only [decide_eq_true_eq] at e5
      omega
    refine ⟨_, rfl, _, _, rfl, rfl, _, rfl, ite2 (fun e6 => ?_) (fun e6 => ?_)⟩
    · refine qe (fun ⟨ls', R, C, wr⟩ => ?_) H1 s1
      obtain ⟨_, u1, u2, u3⟩ := uniq ls' R C wr
      have := wr.c2
      simp only [decide_eq_true_eq] at e6
      omega
    simp only [decide_eq_true_eq] at e5 e6
    obtain ⟨R, eR⟩ : ∃ R, ls.length = R := ⟨_, rfl⟩
    obtain ⟨C, eC⟩ : ∃ C, (line ls 0).length = C := ⟨_, rfl⟩
    rw [eC] at e5 e6 ⊢
    have c1 : 1 ≤ C := by omega
    have c2 : C ≤ 10 := by omega
    have no' : ∀ i, i < R → (line ls i).length ≠ C → ∀ H', Same H1 H' → Q .non H' := fun i hi nl H' s' => qe (fun ⟨ls', R', C', wr⟩ => by
      obtain ⟨_, u1, u2, u3⟩ := uniq ls' R' C' wr
      subst u1
      exact nl ((wr.len i (by omega)).trans (by omega))) H' (s1.trans s')
    have no2 : ∀ i j, i < R → j < C → sgn ((line ls i).cps.getD j 0) = -1 → ∀ H', Same H1 H' → Q .non H' := fun i j hi hj bad H' s' => qe (fun ⟨ls', R', C', wr⟩ => by
      obtain ⟨_, u1, u2, u3⟩ := uniq ls' R' C' wr
      subst u1
      exact wr.sg i j (by omega) (by omega) bad) H' (s1.trans s')
    intro o no
    have e1' : (upd H1 o (.dT [])) l = some (.lst (ls.map V.str ++ [.str (Str.ofString "")])) := (Same.upd no) _ _ e1
    refine ⟨_, rfl, l, _, rfl, .inl (SqL.of e1'), _, _, rfl, rfl, ((R : Nat) : Int), (by rw [ll, eR]; show [V.int (((R + 1 : Nat) : Int) - 1)] = [V.int R]; rw [show ((R + 1 : Nat) : Int) - 1 = (R : Int) by omega]), by omega, by omega, ?_⟩
    rw [Int.toNat_natCast]
    refine for_range (n := R) (fun i σ H2 => ∃ v4 v5 ks, σ = [some (.str z), some (.ref l), some (.int C), some (.ref o), v4, v5] ∧ Same H1 H2 ∧ OD H2 o R C (ownOf ls i) ks ∧ ∀ i', i' < i → (line ls i').length = C ∧ ∀ j, j < C → sgn ((line ls i').cps.getD j 0) ≠ -1) ?_ ?_ ?_
    · refine ⟨none, none, [], rfl, Same.upd no, ?_, fun i' hi' => by omega⟩
      rw [ownOf_zero]
      exact OD.none
    · rintro i σ H2 hi ⟨v4, v5, ks, rfl, s2, od, al⟩
      have hi' : i < ls.length := by omega
      have e2 := s2 _ _ e1
      have ix : atI (ls.map V.str ++ [V.str (Str.ofString "")]) (0 + (i : Int)) = some (.str (line ls i)) := by rw [Int.zero_add]; exact at_ i hi'
      refine ⟨_, rfl, _, rfl, l, _, _, _, rfl, rfl, SqL.of e2, ix, line ls i, rfl, (by have := lp i hi'; omega), _, rfl, rfl, _, rfl, ite2 (fun e => ?_) (fun e => ?_)⟩
      · refine no' i hi (fun e7 => ?_) H2 s2
        rw [e7] at e
        simp at e
      have elen : (line ls i).length = C := by
        simp at e
        omega
      refine ⟨_, rfl, (C : Int), rfl, by omega, by omega, ?_⟩
      rw [Int.toNat_natCast]
      refine for_range (n := C) (fun j σ H3 => ∃ v5 ks, σ = [some (.str z), some (.ref l), some (.int C), some (.ref o), some (.int (0 + (i : Int))), v5] ∧ Same H1 H3 ∧ OD H3 o R C (rowO (ownOf ls i) i (line ls i) j) ks ∧ ∀ j', j' < j → sgn ((line ls i).cps.getD j' 0) ≠ -1) ?_ ?_ ?_
      · exact ⟨v5, ks, rfl, s2, by rw [rowO_zero]; exact od, fun j' h => by omega⟩
      · rintro j σ H3 hj ⟨v5, ks, rfl, s3, od, hs⟩
        have e3 := s3 _ _ e1
        have hb : inB R C (0 + (i : Int)) (0 + (j : Int)) := by unfold inB; omega
        have gj : (line ls i).cps.toList[j]? = some ((line ls i).cps.getD j 0) := by
          rw [Array.getElem?_toList]
          have hj' : j < (line ls i).cps.size := by have e9 : (line ls i).cps.size = C := elen; omega
          simp [Array.getD, hj']
        have iy : atI (line ls i).cps.toList (0 + (j : Int)) = some ((line ls i).cps.getD j 0) := by rw [Int.zero_add]; exact atI_nat gj
        have s4 := sgn_4 ((line ls i).cps.getD j 0)
        refine ⟨_, rfl, _, rfl, l, _, _, _, rfl, rfl, SqL.of e3, ix, _, rfl, line ls i, _, _, rfl, rfl, by omega, iy, _, _, rfl, rfl, ?_⟩
        rw [notin_c]
        refine ⟨_, rfl, ite2 (fun e7 => ?_) (fun e7 => ?_)⟩
        · exact no2 i j hi hj (by simpa using e7) H3 s3
        have e7 : ¬ sgn ((line ls i).cps.getD j 0) = -1 := by simpa using e7
        have nx : ∀ j', j' < j + 1 → sgn ((line ls i).cps.getD j' 0) ≠ -1 := fun j' h => by
          by_cases y : j' < j
          · exact hs j' y
          · obtain rfl : j' = j := by omega
            exact e7
        refine ⟨_, rfl, _, rfl, l, _, _, _, rfl, rfl, SqL.of e3, ix, _, rfl, line ls i, _, _, rfl, rfl, by omega, iy, rfl, _, rfl, ite2 (fun e8 => ?_) (fun e8 => ?_)⟩
        · have e9 : sgn ((line ls i).cps.getD j 0) ≠ 0 := fun y => by
            have := (dot_c _).mpr y
            rw [this] at e8
            simp at e8
          refine ⟨rfl, _, rfl, _, rfl, l, _, _, _, rfl, rfl, SqL.of e3, ix, _, rfl, line ls i, _, _, rfl, rfl, by omega, iy, _, _, rfl, rfl, ?_⟩
          have fc := find_c ((line ls i).cps.getD j 0)
          dsimp only
          rw [fc]
          refine ⟨_, rfl, _, rfl, _, rfl, (by show 2 ≤ sizeLine; omega), fun t nt => ?_⟩
          obtain ⟨H5, d5, od5, s5⟩ := od.step (v := sgn ((line ls i).cps.getD j 0)) s3 no nt hb e9 (by omega) c2
          rw [rowO_put] at od5
          exact ⟨o, H5, rfl, d5, _, _, rfl, s5, od5, nx⟩
        · have e9 : sgn ((line ls i).cps.getD j 0) = 0 := (dot_c _).mp (by simpa using e8)
          exact ⟨_, _, rfl, s3, by rw [← rowO_skip (fun c => ownOf_row ls i c) e9]; exact od, nx⟩
      · rintro σ H3 ⟨v5, ks, rfl, s3, od, hs⟩
        rw [rowO_all eC] at od
        refine ⟨_, _, _, rfl, s3, od, fun i' h' => ?_⟩
        by_cases y : i' < i
        · exact al i' y
        · obtain rfl : i' = i := by omega
          exact ⟨elen, hs⟩
    · rintro σ H2 ⟨v4, v5, ks, rfl, s2, od, al⟩
      have e2 := s2 _ _ e1
      refine ⟨_, rfl, l, _, rfl, .inl (SqL.of e2), _, _, rfl, rfl, _, rfl, _, rfl, (by show 3 ≤ sizeLine; omega), fun t nt => ?_⟩
      refine q ls R C ⟨ep, eR, by omega, by omega, c1, c2, fun i hi => (al i hi).1, fun i j hi hj => (al i hi).2 j hj⟩ t o _ ks (s1.trans (s2.trans (Same.upd nt))) ?_ (od.mono (Same.upd nt))
      rw [upd_same, ll, eR]
      show some (HO.tup [V.int (((R + 1 : Nat) : Int) - 1), _, _]) = some (HO.tup [V.int R, _, _])
      rw [show ((R + 1 : Nat) : Int) - 1 = (R : Int) by omega]
end
end K13

set_option maxHeartbeats 4000000
namespace Bd
open PySem L2
theorem eqv_bools : ∀ bs : List Bool, PyData.eqvAll (bs.map PyData.bool) (bs.map PyData.bool) = true
  | [] => by simp [PyData.eqvAll]
  | b :: r => by
    rw [List.map_cons, PyData.eqvAll, eqv_bools r]
    simp [PyData.eqv]
theorem lay_bools : ∀ bs : List Bool, PyData.canLayAll0 (bs.map PyData.bool) = true
  | [] => by rw [List.map_nil, PyData.canLayAll0]
  | b :: r => by
    rw [List.map_cons, PyData.canLayAll0, lay_bools r]
    simp [PyData.canLay0]
theorem dep_bools : ∀ bs : List Bool, PyData.depthAll (bs.map PyData.bool) ≤ 0
  | [] => by simp [PyData.depthAll]
  | b :: r => by
    rw [List.map_cons, PyData.depthAll]
    have h := dep_bools r
    have h2 : (PyData.bool b).depth = 0 := by simp [PyData.depth]
    omega
theorem same_boolsT {H : Hp} {l m : Addr} (bs : List Bool) {Qn : VK} (h1 : H l = some (.lst (bs.map V.bl))) (h2 : H m = some (.lst (bs.map V.bl))) (q : Qn (.bl true) H) : rEqD false (.ref l) (.ref m) H Qn := by
  refine ⟨.list (bs.map PyData.bool), .list (bs.map PyData.bool), rd_lbools bs h1, rd_lbools bs h2, by rw [PyData.canLay0]; exact lay_bools bs, by rw [PyData.canLay0]; exact lay_bools bs, by have := dep_bools bs; rw [PyData.depth]; omega, ?_⟩
  have e : PyData.eqv (.list (bs.map PyData.bool)) (.list (bs.map PyData.bool)) = true := by rw [PyData.eqv]; exact eqv_bools bs
  rw [e]
  exact q
end Bd
namespace K13
open PySem L2 Bd
def spSame (D : Ads) : Sp := fun vs H Q _ => ∃ (p d o : Addr) (R C : Nat) (own : Nat × Nat → Int) (ks : List Cl), vs = [.ref p, .int R, .int C, .ref o] ∧ R ≤ 10 ∧ C ≤ 10 ∧ BoardAt D.CB H p d R C own ∧ OD H o R C own ks ∧ ∀ H', Same H H' → Q (.bl true) H'
theorem Wr.uniq {z : Str} {ls ls' : List Str} {R R' C C' : Nat} (a : Wr z ls R C) (b : Wr z ls' R' C') : ls' = ls ∧ R' = R ∧ C' = C := by
  have e := a.cut.symm.trans b.cut
  have e2 : ls' = ls := (List.append_inj' e rfl).1.symm
  subst e2
  have h1 := a.rows
  have h2 := b.rows
  have h3 := a.len 0 (by have := a.r1; omega)
  have h4 := b.len 0 (by have := b.r1; omega)
  exact ⟨rfl, by omega, by omega⟩
section
variable {P : Program} {w : World} {K : PySem.W.Frag} {mg : Str → Option Value} {base : Heap} {D : Ads}
theorem scSame : FnScope ["board", "rows", "columns", "owners", "r", "c", "found"] ["board", "rows", "columns", "owners"] (defScope sSame) := ⟨rfl, rfl, rfl, by decide +kernel, rfl, by decide +kernel, by decide +kernel⟩
theorem ok_same {f fX fY fO fW : Addr} {fd fdX fdY fdO fdW : FuncData} (F : Fun K "_law_same" "_law_same" sSame f fd) (T : Txt K mg D)
    (GX : FnOk P w K mg base (CX1 P w) 1 fX fdX ["self"] (spSize D fun R _ => R)) (bX : Binds K fdX ["self"] []) (mX : Meth K D.CB "rows" fX)
    (GY : FnOk P w K mg base (CX1 P w) 1 fY fdY ["self"] (spSize D fun _ C => C)) (bY : Binds K fdY ["self"] []) (mY : Meth K D.CB "columns" fY)
    (GO : FnOk P w K mg base (CX1 P w) 2 fO fdO ["self", "cell"] (spOwner D)) (bO : Binds K fdO ["self", "cell"] []) (mO : Meth K D.CB "owner" fO)
    (GW : FnOk P w K mg base (CX1 P w) 1 fW fdW ["found"] spWhole) (kW : PySem.W.keepIn K (.ref fW) = true) (bW : Binds K fdW ["found"] []) (mW : mg "_law_whole" = some (.ref fW)) :
    FnOk P w K mg base (CX1 P w) 3 f fd ["board", "rows", "columns", "owners"] (spSame D) := by
  refine F.ok0 scSame (fun vs H Q E h => ?_) (fun cdv A outer s H vs Q E hr h => ?_)
  · obtain ⟨p, d, o, R, C, own, ks, rfl, _⟩ := h
    rfl
  · obtain ⟨p, d, o, R, C, own, ks, rfl, hR, hC, B, od, q⟩ := h
    have hu := hu_of hr
    have hr1 : Room 1 _ := hr.mono (by decide)
    have sl : 4000 ≤ sizeLine := by rw [sizeLine_eq]; decide
    refine ⟨_, pss_cons (ps_if (PW.pt (pw_or (pt_cmpR op_ne (pe_meth0 (pv 0) T.cl mX GX hr1 bX .nil passN) (pv 1) (nomark _)) (pw_or1 (pt_cmpR op_ne (pe_meth0 (pv 0) T.cl mY GY hr1 bY .nil passN) (pv 2) (nomark _))))) (pss_one (ps_ret pe_bl)) pss_nil)
      (pss_cons (ps_for PassesOwn.never rfl (pi_range1 rfl T.rng (pa_cons (pv 1) pa_nil)) (pg_name (i := 4) scSame.nd rfl (Or.inl rfl))
        (pss_one (ps_for PassesOwn.never rfl (pi_range1 rfl T.rng (pa_cons (pv 2) pa_nil)) (pg_name (i := 5) scSame.nd rfl (Or.inl rfl))
          (pss_cons (ps_set (i := 6) scSame.nd rfl (Or.inl rfl) (pe_meth (pv 0) T.cl mO GO hr bO .nil passN (pa_cons (pe_tup (pa_cons (pv 4) (pa_cons (pv 5) pa_nil))) pa_nil)))
          (pss_one (ps_if (PW.pt (pw_or (pt_not (pt_val (pe_call GW hr1 rfl mW kW bW .nil passN (pa_cons (pv 6) pa_nil)))) (pw_or1 (pt_cmpR op_ne (pv 6) (pe_dget2 hu (pv 3) (pe_tup (pa_cons (pv 4) (pa_cons (pv 5) pa_nil))) pe_int (by exact ⟨rfl, rfl, rfl, rfl⟩)) (nomark _))))) (pss_one (ps_ret pe_bl)) pss_nil))))))
      (pss_one (ps_ret pe_bl))), ?_⟩
    obtain ⟨dx, hp⟩ := B.ob
    refine ⟨_, rfl, p, dx, _, rfl, hp, bflds_no _ _ _ (by decide +kernel) (by decide +kernel) (by decide +kernel), p, d, R, C, own, rfl, B, _, rfl, rfl, _, rfl, iteN (by simp) ?_⟩
    refine ⟨_, rfl, p, dx, _, rfl, hp, bflds_no _ _ _ (by decide +kernel) (by decide +kernel) (by decide +kernel), p, d, R, C, own, rfl, B, _, rfl, rfl, _, rfl, iteN (by simp) ?_⟩
    refine ⟨_, rfl, (R : Int), rfl, by omega, by omega, ?_⟩
    rw [Int.toNat_natCast]
    refine for_range (n := R) (fun i σ H2 => ∃ v4 v5 v6, σ = [some (.ref p), some (.int R), some (.int C), some (.ref o), v4, v5, v6] ∧ Same H H2) ?_ ?_ ?_
    · exact ⟨none, none, none, rfl, Same.refl _⟩
    · rintro i σ H2 hi ⟨v4, v5, v6, rfl, s2⟩
      refine ⟨_, rfl, (C : Int), rfl, by omega, by omega, ?_⟩
      rw [Int.toNat_natCast]
      refine for_range (n := C) (fun j σ H3 => ∃ v5 v6, σ = [some (.ref p), some (.int R), some (.int C), some (.ref o), some (.int (0 + (i : Int))), v5, v6] ∧ Same H H3) ?_ ?_ ?_
      · exact ⟨v5, v6, rfl, s2⟩
      · rintro j σ H3 hj ⟨v5, v6, rfl, s3⟩
        have hb : inB R C (0 + (i : Int)) (0 + (j : Int)) := by unfold inB; omega
        refine ⟨_, rfl, p, dx, _, rfl, s3 _ _ hp, bflds_no _ _ _ (by decide +kernel) (by decide +kernel) (by decide +kernel), _, rfl, _, rfl, (by show 2 ≤ sizeLine; omega), fun t nt => ?_⟩
        have s4 : Same H3 (upd H3 t (.tup [.int (0 + (i : Int)), .int (0 + (j : Int))])) := Same.upd nt
        have ct : CellAt (upd H3 t (.tup [.int (0 + (i : Int)), .int (0 + (j : Int))])) t (0 + (i : Int)) (0 + (j : Int)) := upd_same
        generalize upd H3 t (.tup [.int (0 + (i : Int)), .int (0 + (j : Int))]) = H4 at s4 ct ⊢
        have s04 := s3.trans s4
        refine ⟨p, d, t, R, C, own, _, _, rfl, B.mono s04, ct, fun y => absurd hb y, fun _ => ?_⟩
        refine ⟨_, rfl, _, rfl, _, rfl, iteF ?_⟩
        refine ⟨_, rfl, _, rfl, o, rfl, .inr ⟨_, .inl (od.mono s04).dd.1⟩, _, rfl, _, rfl, (by show 2 ≤ sizeLine; omega), fun t2 nt2 => ?_⟩
        have s5 : Same H4 (upd H4 t2 (.tup [.int (0 + (i : Int)), .int (0 + (j : Int))])) := Same.upd nt2
        have ct2 : CellAt (upd H4 t2 (.tup [.int (0 + (i : Int)), .int (0 + (j : Int))])) t2 (0 + (i : Int)) (0 + (j : Int)) := upd_same
        generalize upd H4 t2 (.tup [.int (0 + (i : Int)), .int (0 + (j : Int))]) = H5 at s5 ct2 ⊢
        have od5 := (od.mono s04).mono s5
        have g := od5.dd.get (p := (0 + (i : Int), 0 + (j : Int))) ct2
        have ev : (if ((0 + (i : Int), 0 + (j : Int)) : Cl) ∈ ks then some (V.int (own (nat2 (0 + (i : Int), 0 + (j : Int))))) else none).getD (.int 0) = .int (own ((0 + (i : Int)).toNat, (0 + (j : Int)).toNat)) := by
          by_cases m : ((0 + (i : Int), 0 + (j : Int)) : Cl) ∈ ks
          · rw [if_pos m]; rfl
          · rw [if_neg m]
            have z : own (nat2 (0 + (i : Int), 0 + (j : Int))) = 0 := by
              by_cases y : own (nat2 (0 + (i : Int), 0 + (j : Int))) = 0
              · exact y
              · exact absurd ((od5.mem _).mpr ⟨hb, y⟩) m
            show V.int 0 = V.int (own (nat2 (0 + (i : Int), 0 + (j : Int))))
            rw [z]
        refine ⟨_, g, ?_⟩
        rw [ev]
        exact ⟨rfl, _, rfl, iteN (by simp) ⟨_, _, rfl, s04.trans s5⟩⟩
      · rintro σ H3 ⟨v5, v6, rfl, s3⟩
        exact ⟨_, _, _, rfl, s3⟩
    · rintro σ H2 ⟨v4, v5, v6, rfl, s2⟩
      exact q H2 s2
def tIsi (K : PySem.W.Frag) (i : Nat) (v : V) : TE := tCB (rIsiE K) (tCons (tVar i) (tCons (tC v) tNil))
def tsLaw (K : PySem.W.Frag) (D : Ads) : TS := tSeq
  (tAsg (tLst (tCons (tIsi K 7 (.ref D.NB)) (tCons (tIsi K 7 (.ty "ValueError")) (tCons (tIsi K 7 (.ref D.NC)) (tCons (tIsi K 7 (.ref D.NH)) tNil))))) (gName 6))
  (tAsg (tOp rCat (tVar 6) (tLst (tCons (tIsi K 7 (.ref D.CT)) (tCons (tIsi K 7 (.ref D.EM)) tNil)))) (gName 6))
theorem law_suite {x : Str} {C : Addr} {b1 b2 b3 b4 b5 : Bool} (Z : ExcK K mg D x C b1 b2 b3 b4 b5) {En : Ends} {H : Hp} {ea : Addr} {v0 v1 v2 v3 v4 v5 v6 : Option V} (nea : H ea = none)
    (q : ∀ l H', Same H H' → H' l = some (.lst ([b5, true, b1, b2, b3, b4].map V.bl)) → En.nx [v0, v1, v2, v3, v4, v5, some (.ref l), none] H') :
    tsLaw K D (endsAs En 7) [v0, v1, v2, v3, v4, v5, v6, some (.ref ea)] (upd H ea (excO ea C)) := by
  refine ⟨_, rfl, ea, C, _, _, _, rfl, rfl, upd_same, Z.cls, Z.cd, Z.q5, ?_⟩
  refine ⟨_, rfl, ea, C, _, _, _, rfl, rfl, upd_same, Z.cls, Z.cd, Z.q6, ?_⟩
  refine ⟨_, rfl, ea, C, _, _, _, rfl, rfl, upd_same, Z.cls, Z.cd, Z.q1, ?_⟩
  refine ⟨_, rfl, ea, C, _, _, _, rfl, rfl, upd_same, Z.cls, Z.cd, Z.q2, ?_⟩
  refine ⟨(by show 4 ≤ sizeLine; decide), fun l1 n1 => ?_⟩
  have he : (upd (upd H ea (excO ea C)) l1 (.lst [.bl b5, .bl true, .bl b1, .bl b2])) ea = some (excO ea C) := (Same.upd n1) _ _ upd_same
  refine ⟨_, rfl, _, rfl, ea, C, _, _, _, rfl, rfl, he, Z.cls, Z.cd, Z.q3, ?_⟩
  refine ⟨_, rfl, ea, C, _, _, _, rfl, rfl, he, Z.cls, Z.cd, Z.q4, ?_⟩
  refine ⟨(by show 2 ≤ sizeLine; decide), fun l2 n2 => ?_⟩
  refine ⟨l1, l2, _, _, rfl, rfl, (Same.upd n2) _ _ upd_same, upd_same, (by show 6 ≤ sizeLine; decide), fun l3 n3 => ?_⟩
  exact q l3 _ ((((Same.upd nea).trans (Same.upd n1)).trans (Same.upd n2)).trans (Same.upd n3)) upd_same
theorem scLaw : FnScope ["script", "rows", "columns", "text", "due", "found", "marks", "e"] ["script"] (defScope sLaw) := ⟨rfl, rfl, rfl, by decide +kernel, rfl, by decide +kernel, by decide +kernel⟩
theorem ok_law {f fA fU fO fT fS fR fE : Addr} {fd fdA fdU fdO fdT fdS fdR fdE : FuncData} (F : Fun K "law" "law" sLaw f fd) (T : Txt K mg D) (Z : ExcK K mg D "NoBoard" D.NB false false false false true)
    (GA : FnOk P w K mg base (CX1 P w) 1 fA fdA ["script", "k"] (spCellAt K)) (kA : PySem.W.keepIn K (.ref fA) = true) (bA : Binds K fdA ["script", "k"] []) (mA : mg "_law_cell_at" = some (.ref fA))
    (GO : FnOk P w K mg base (CX1 P w) 2 fO fdO ["script", "first", "rows", "columns"] (spOwners K)) (kO : PySem.W.keepIn K (.ref fO) = true) (bO : Binds K fdO ["script", "first", "rows", "columns"] []) (mO : mg "_law_owners" = some (.ref fO))
    (GT : FnOk P w K mg base (CX1 P w) 1 fT fdT ["rows", "columns", "owners"] spText) (kT : PySem.W.keepIn K (.ref fT) = true) (bT : Binds K fdT ["rows", "columns", "owners"] []) (mT : mg "_law_text" = some (.ref fT))
    (GS : FnOk P w K mg base (CX1 P w) 2 fS fdS ["text", "cell"] spSpoiled) (kS : PySem.W.keepIn K (.ref fS) = true) (bS : Binds K fdS ["text", "cell"] []) (mS : mg "_law_spoiled" = some (.ref fS))
    (GU : FnOk P w K mg base (CX1 P w) 1 fU fdU ["text"] spDue) (kU : PySem.W.keepIn K (.ref fU) = true) (bU : Binds K fdU ["text"] []) (mU : mg "_law_due" = some (.ref fU))
    (GR : FnOk P w K mg base (CX1 P w) 4 fR fdR ["text"] (spRead D)) (kR : PySem.W.keepIn K (.ref fR) = true) (bR : Binds K fdR ["text"] []) (mR : mg "read" = some (.ref fR))
    (GE : FnOk P w K mg base (CX1 P w) 3 fE fdE ["board", "rows", "columns", "owners"] (spSame D)) (kE : PySem.W.keepIn K (.ref fE) = true) (bE : Binds K fdE ["board", "rows", "columns", "owners"] []) (mE : mg "_law_same" = some (.ref fE)) :
    FnOk P w K mg base (CX1 P w) 5 f fd ["script"] (spLaw K) := by
  refine F.ok0 scLaw (fun vs H Q E h => ?_) (fun cdv A outer s H vs Q E hr h => ?_)
  · obtain ⟨a, ns, rfl, _⟩ := h
    rfl
  · obtain ⟨a, ns, rfl, hS, hlen, k⟩ := h
    have hr1 : Room 1 _ := hr.mono (by decide)
    have hr2 : Room 2 _ := hr.mono (by decide)
    have hr3 : Room 3 _ := hr.mono (by decide)
    have hu := hr.units
    refine ⟨_, pss_cons (ps_set (i := 1) scLaw.nd rfl (Or.inl rfl) (pe_op op_add pe_int (pe_op op_mod (pe_call GA hr1 rfl mA kA bA .nil passN (pa_cons (pv 0) (pa_cons pe_int pa_nil))) pe_int)))
      (pss_cons (ps_set (i := 2) scLaw.nd rfl (Or.inl rfl) (pe_op op_add pe_int (pe_op op_mod (pe_call GA hr1 rfl mA kA bA .nil passN (pa_cons (pv 0) (pa_cons pe_int pa_nil))) pe_int)))
      (pss_cons (ps_set (i := 3) scLaw.nd rfl (Or.inl rfl) (pe_call GT hr1 rfl mT kT bT .nil passN (pa_cons (pv 1) (pa_cons (pv 2) (pa_cons (pe_call GO hr2 rfl mO kO bO .nil passN (pa_cons (pv 0) (pa_cons pe_int (pa_cons (pv 1) (pa_cons (pv 2) pa_nil))))) pa_nil)))))
      (pss_cons (ps_if (pt_cmpR op_gt (pe_op op_mod (pe_call GA hr1 rfl mA kA bA .nil passN (pa_cons (pv 0) (pa_cons pe_int pa_nil))) pe_int) pe_int (nomark _))
        (pss_one (ps_set (i := 3) scLaw.nd rfl (Or.inl rfl) (pe_call GS hr2 rfl mS kS bS .nil passN (pa_cons (pv 3) (pa_cons (pe_op op_mod (pe_op op_fdiv (pe_call GA hr1 rfl mA kA bA .nil passN (pa_cons (pv 0) (pa_cons pe_int pa_nil))) pe_int) (pe_op op_pow pe_int pe_int)) pa_nil))))) pss_nil)
      (pss_cons (ps_set (i := 4) scLaw.nd rfl (Or.inl rfl) (pe_call GU hr1 rfl mU kU bU .nil passN (pa_cons (pv 3) pa_nil)))
      (pss_cons (ps_set (i := 5) scLaw.nd rfl (Or.inl rfl) pe_non)
      (pss_cons (ps_set (i := 6) scLaw.nd rfl (Or.inl rfl) (pe_lst pa_nil))
      (pss_cons (ps_try (i := 7) (ts := tsLaw K D) ⟨rfl, rfl⟩ scLaw.nd rfl rfl rfl T.mgE
        (pssx_one (psx_set (i := 5) scLaw.nd rfl (Or.inl rfl) (px_call GR hr rfl mR kR bR .nil (pa_cons (pv 3) pa_nil))))
        (by intro ea; exact (pss_cons (ps_set (i := 6) scLaw.nd rfl (Or.inl rfl) (pe_lst
            (pa_cons (pe_callB call_isiE rfl T.isi (by decide +kernel) (pa_cons (pv 7) (pa_cons (pe_glob (v := .ref D.NB) rfl T.xNB.at_ rfl) pa_nil)))
            (pa_cons (pe_callB call_isiE rfl T.isi (by decide +kernel) (pa_cons (pv 7) (pa_cons (pe_bltn (v := .ty "ValueError") rfl T.tVE (by decide +kernel) rfl) pa_nil)))
            (pa_cons (pe_callB call_isiE rfl T.isi (by decide +kernel) (pa_cons (pv 7) (pa_cons (pe_glob (v := .ref D.NC) rfl T.xNC.exc.at_ rfl) pa_nil)))
            (pa_cons (pe_callB call_isiE rfl T.isi (by decide +kernel) (pa_cons (pv 7) (pa_cons (pe_glob (v := .ref D.NH) rfl T.xNH.exc.at_ rfl) pa_nil))) pa_nil))))))
          (pss_one (ps_set (i := 6) scLaw.nd rfl (Or.inl rfl) (pe_op op_cat (pv 6) (pe_lst
            (pa_cons (pe_callB call_isiE rfl T.isi (by decide +kernel) (pa_cons (pv 7) (pa_cons (pe_glob (v := .ref D.CT) rfl T.xCT.exc.at_ rfl) pa_nil)))
            (pa_cons (pe_callB call_isiE rfl T.isi (by decide +kernel) (pa_cons (pv 7) (pa_cons (pe_glob (v := .ref D.EM) rfl T.xEM.exc.at_ rfl) pa_nil))) pa_nil)))))))))
      (pss_cons (ps_if (pt_cmp (pc_isN (pv 4))) (pss_one (ps_ret (pe_cmpR (op_eqD hu) (pv 6) (pe_lst (pa_cons pe_bl (pa_cons pe_bl (pa_cons pe_bl (pa_cons pe_bl (pa_cons pe_bl (pa_cons pe_bl pa_nil))))))) (nomark _)))) pss_nil)
      (pss_one (ps_ret (pe_and (pe_cmpR (op_eqD hu) (pv 6) (pe_lst pa_nil) (nomark _)) (pe_one (pe_call GE hr3 rfl mE kE bE .nil passN (pa_cons (pv 5) (pa_cons (pe_ix ix_tup (pv 4) pe_int (fun _ _ => rfl)) (pa_cons (pe_ix ix_tup (pv 4) pe_int (fun _ _ => rfl)) (pa_cons (pe_ix ix_tup (pv 4) pe_int (fun _ _ => rfl)) pa_nil))))))))))))))))), ?_⟩
    refine ⟨_, rfl, a, ns, 0, rfl, hS, hlen, _, _, rfl, rfl, (by show (0 : Int) < 10; decide), _, _, rfl, rfl, ?_⟩
    refine ⟨_, rfl, a, ns, 1, rfl, hS, hlen, _, _, rfl, rfl, (by show (0 : Int) < 10; decide), _, _, rfl, rfl, ?_⟩
    obtain ⟨R, eR, r1, r2⟩ : ∃ R : Nat, 1 + ns.getD 0 0 % 10 = (R : Int) ∧ 1 ≤ R ∧ R ≤ 10 := ⟨(1 + ns.getD 0 0 % 10).toNat, by omega, by omega, by omega⟩
    obtain ⟨C, eC, c1, c2⟩ : ∃ C : Nat, 1 + ns.getD 1 0 % 10 = (C : Int) ∧ 1 ≤ C ∧ C ≤ 10 := ⟨(1 + ns.getD 1 0 % 10).toNat, by omega, by omega, by omega⟩
    dsimp only
    rw [eR, eC]
    refine ⟨_, rfl, _, rfl, _, rfl, _, rfl, _, rfl, a, ns, 3, R, C, rfl, hS, hlen, r2, c2, fun o H1 own ks s1 no od o3 => ?_⟩
    refine ⟨R, C, o, own, ks, rfl, r1, r2, c2, od, o3, fun H2 z s2 z1 z2 => ?_⟩
    have s02 := s1.trans s2
    dsimp only [gName]
    refine seq_cut (fun σ' H' => ∃ z' : Str, z'.length ≤ 2000 ∧ Same H H' ∧ σ' = [some (.ref a), some (.int R), some (.int C), some (.str z'), none, none, none, none]) (fun G hG => ?_) ?_
    · refine ⟨_, rfl, a, ns, 2, rfl, s02.seq hS, hlen, _, _, rfl, rfl, (by show (0 : Int) < 3; decide), _, _, rfl, rfl, _, rfl, ite2 (fun _ => ?_) (fun _ => ?_)⟩
      · refine ⟨_, rfl, _, rfl, a, ns, 2, rfl, s02.seq hS, hlen, _, _, rfl, rfl, ⟨by decide, by decide⟩, _, _, rfl, rfl, ⟨by decide, by decide, by decide⟩, _, _, rfl, rfl, (by show (0 : Int) < 10 ^ Int.toNat 9; decide), ?_⟩
        exact ⟨z, _, rfl, z1, z2, fun H3 r s3 hr' => hG _ _ ⟨r, hr', s02.trans s3, rfl⟩⟩
      · exact hG _ _ ⟨z, by omega, s02, rfl⟩
    rintro σ H3 ⟨z, hz, s3, rfl⟩
    refine ⟨_, rfl, z, rfl, hz, fun ls R1 C1 wr t o1 H4 ks1 s4 et od1 => ?_, fun nw H4 s4 => ?_⟩
    · refine ⟨(by show 0 ≤ sizeLine; decide), fun lm nm => ?_⟩
      have sm : Same H4 (upd H4 lm (.lst [])) := Same.upd nm
      refine ⟨_, rfl, z, rfl, hz, fun ls2 R2 C2 wr2 p d H5 s5 np nd B => ?_, fun y => absurd ⟨ls, R1, C1, wr⟩ y⟩
      obtain ⟨u1, u2, u3⟩ := wr.uniq wr2
      subst u1 u2 u3
      have el : H5 lm = some (.lst (([] : List Bool).map V.bl)) := s5 _ _ upd_same
      have s45 := sm.trans s5
      have et5 := s45 _ _ et
      refine ⟨_, rfl, _, rfl, iteN (by simp) ?_⟩
      refine ⟨_, rfl, (by show 0 ≤ sizeLine; decide), fun l2 n2 => ?_⟩
      have s6 : Same H5 (upd H5 l2 (.lst [])) := Same.upd n2
      have e2 : (upd H5 l2 (.lst [])) l2 = some (.lst (([] : List Bool).map V.bl)) := upd_same
      generalize upd H5 l2 (.lst []) = H6 at s6 e2 ⊢
      have et6 := s6 _ _ et5
      refine same_boolsT [] (s6 _ _ el) e2 ⟨_, rfl, iteT ?_⟩
      refine ⟨_, rfl, _, rfl, t, _, _, _, rfl, rfl, SqT.of et6, atI_nat (j := 0) rfl, _, rfl, t, _, _, _, rfl, rfl, SqT.of et6, atI_nat (j := 1) rfl, _, rfl, t, _, _, _, rfl, rfl, SqT.of et6, atI_nat (j := 2) rfl, ?_⟩
      exact ⟨p, d, o1, _, _, _, ks1, rfl, wr.r2, wr.c2, B.mono s6, (od1.mono s45).mono s6, fun H7 _ => k H7⟩
    · refine ⟨(by show 0 ≤ sizeLine; decide), fun lm nm => ?_⟩
      refine ⟨_, rfl, z, rfl, hz, fun ls2 R2 C2 wr2 => absurd ⟨ls2, R2, C2, wr2⟩ nw, fun _ H5 s5 => ?_⟩
      refine ⟨D.NB, rfl, Z.exm, fun ea nea => law_suite Z nea fun l H6 s6 el => ?_⟩
      refine ⟨_, rfl, _, rfl, iteY (by simp) ?_⟩
      refine ⟨_, rfl, (by show 6 ≤ sizeLine; decide), fun l2 n2 => ?_⟩
      exact same_boolsT [true, true, false, false, false, false] ((Same.upd n2) _ _ el) upd_same (k _)
end
end K13

set_option maxHeartbeats 4000000
namespace K13
open PySem L2 Bd
theorem all_mk {l : PySem.W.OpenLaw} {w : World} {K : PySem.W.Frag} {h : Heap} {mg : Str → Option Value} {fa CB CE NC NH CT EM NB f1 f2 f3 f4 f5 f6 f7 f8 f9 f10 f11 f12 f13 f14 f15 f16 f17 f18 f19 f20 : Addr} (X : K.In h) (G : h.Ns mainGlobals mg) (hfa : mg "law" = some (.ref fa))
    {od1 an1 od2 an2 od3 an3 od4 an4 od5 an5 od6 an6 od7 an7 od8 an8 od9 an9 od10 an10 od11 an11 od12 an12 od13 an13 od14 an14 od15 an15 od16 an16 od17 an17 od18 an18 od19 an19 od20 an20 : Option Addr} {sl1 sl2 sl3 sl4 sl5 sl6 sl7 sl8 sl9 sl10 sl11 sl12 sl13 sl14 sl15 sl16 sl17 sl18 sl19 sl20 : Array (Option Value)}
    {oc1 kV1 dc1 pm1 cd1 ct1 oc2 kV2 dc2 pm2 cd2 ct2 oc3 kV3 dc3 pm3 cd3 ct3 oc4 kV4 dc4 pm4 cd4 ct4 oc5 kV5 dc5 pm5 cd5 ct5 oc6 kV6 dc6 pm6 cd6 ct6 oc7 kV7 dc7 pm7 cd7 ct7 oc8 kV8 dc8 pm8 cd8 ct8 oc9 kV9 dc9 pm9 cd9 ct9 oc10 kV10 dc10 pm10 cd10 ct10 oc11 kV11 dc11 pm11 cd11 ct11 oc12 kV12 dc12 pm12 cd12 ct12 oc13 kV13 dc13 pm13 cd13 ct13 oc14 kV14 dc14 pm14 cd14 ct14 oc15 kV15 dc15 pm15 cd15 ct15 oc16 kV16 dc16 pm16 cd16 ct16 oc17 kV17 dc17 pm17 cd17 ct17 oc18 kV18 dc18 pm18 cd18 ct18 oc19 kV19 dc19 pm19 cd19 ct19 oc20 kV20 dc20 pm20 cd20 ct20 : Value} {tm tS : Tok} {cxNC cxNH cxCT cxEM cxNB : ClassData}
    (aB : PySem.W.nsIn K mainGlobals "Board" = some (some (.ref CB)))
    (aE : PySem.W.nsIn K mainGlobals "BoardError" = some (some (.ref CE)))
    (aM : PySem.W.nsIn K mainGlobals "MOST" = some (some (.int 10 tm)))
    (xNC : PySem.W.nsIn K mainGlobals "NoCell" = some (some (.ref NC)))
    (xNH : PySem.W.nsIn K mainGlobals "NoHand" = some (some (.ref NH)))
    (xCT : PySem.W.nsIn K mainGlobals "CellTaken" = some (some (.ref CT)))
    (xEM : PySem.W.nsIn K mainGlobals "CellEmpty" = some (some (.ref EM)))
    (xNB : PySem.W.nsIn K mainGlobals "NoBoard" = some (some (.ref NB)))
    (a1 : PySem.W.findIn K (.ref CB) "__init__" = some (some (.ref f1)))
    (i1 : PySem.W.isFn K (.ref f1) = true)
    (l1 : K.lookup f1 = some ⟨oc1, od1, .func (PySem.W.fnOf "__init__" "Board.__init__" (defArgs sInit) (defBody sInit) (defScope sInit) .none kV1 dc1 pm1 an1 cd1 ct1), sl1⟩)
    (c1 : PySem.W.codeIn K cd1 "Board.__init__" = true)
    (k1 : PySem.W.keepIn K (.ref f1) = true)
    (a2 : PySem.W.findIn K (.ref CB) "rows" = some (some (.ref f2)))
    (i2 : PySem.W.isFn K (.ref f2) = true)
    (l2 : K.lookup f2 = some ⟨oc2, od2, .func (PySem.W.fnOf "rows" "Board.rows" (defArgs sRows) (defBody sRows) (defScope sRows) .none kV2 dc2 pm2 an2 cd2 ct2), sl2⟩)
    (c2 : PySem.W.codeIn K cd2 "Board.rows" = true)
    (k2 : PySem.W.keepIn K (.ref f2) = true)
    (a3 : PySem.W.findIn K (.ref CB) "columns" = some (some (.ref f3)))
    (i3 : PySem.W.isFn K (.ref f3) = true)
    (l3 : K.lookup f3 = some ⟨oc3, od3, .func (PySem.W.fnOf "columns" "Board.columns" (defArgs sCols) (defBody sCols) (defScope sCols) .none kV3 dc3 pm3 an3 cd3 ct3), sl3⟩)
    (c3 : PySem.W.codeIn K cd3 "Board.columns" = true)
    (k3 : PySem.W.keepIn K (.ref f3) = true)
    (a4 : PySem.W.findIn K (.ref CB) "put" = some (some (.ref f4)))
    (i4 : PySem.W.isFn K (.ref f4) = true)
    (l4 : K.lookup f4 = some ⟨oc4, od4, .func (PySem.W.fnOf "put" "Board.put" (defArgs sPut) (defBody sPut) (defScope sPut) .none kV4 dc4 pm4 an4 cd4 ct4), sl4⟩)
    (c4 : PySem.W.codeIn K cd4 "Board.put" = true)
    (k4 : PySem.W.keepIn K (.ref f4) = true)
    (a5 : PySem.W.findIn K (.ref CB) "owner" = some (some (.ref f5)))
    (i5 : PySem.W.isFn K (.ref f5) = true)
    (l5 : K.lookup f5 = some ⟨oc5, od5, .func (PySem.W.fnOf "owner" "Board.owner" (defArgs sOwner) (defBody sOwner) (defScope sOwner) .none kV5 dc5 pm5 an5 cd5 ct5), sl5⟩)
    (c5 : PySem.W.codeIn K cd5 "Board.owner" = true)
    (k5 : PySem.W.keepIn K (.ref f5) = true)
    (a6 : PySem.W.findIn K (.ref CB) "check_cell" = some (some (.ref f6)))
    (i6 : PySem.W.isFn K (.ref f6) = true)
    (l6 : K.lookup f6 = some ⟨oc6, od6, .func (PySem.W.fnOf "check_cell" "Board.check_cell" (defArgs sCheck) (defBody sCheck) (defScope sCheck) .none kV6 dc6 pm6 an6 cd6 ct6), sl6⟩)
    (c6 : PySem.W.codeIn K cd6 "Board.check_cell" = true)
    (k6 : PySem.W.keepIn K (.ref f6) = true)
    (a7 : PySem.W.nsIn K mainGlobals "check_hand" = some (some (.ref f7)))
    (l7 : K.lookup f7 = some ⟨oc7, od7, .func (PySem.W.fnOf "check_hand" "check_hand" (defArgs sHand) (defBody sHand) (defScope sHand) .none kV7 dc7 pm7 an7 cd7 ct7), sl7⟩)
    (c7 : PySem.W.codeIn K cd7 "check_hand" = true)
    (k7 : PySem.W.keepIn K (.ref f7) = true)
    (a8 : PySem.W.nsIn K mainGlobals "check_length" = some (some (.ref f8)))
    (l8 : K.lookup f8 = some ⟨oc8, od8, .func (PySem.W.fnOf "check_length" "check_length" (defArgs sLen) (defBody sLen) (defScope sLen) .none kV8 dc8 pm8 an8 cd8 ct8), sl8⟩)
    (c8 : PySem.W.codeIn K cd8 "check_length" = true)
    (k8 : PySem.W.keepIn K (.ref f8) = true)
    (a9 : PySem.W.nsIn K mainGlobals "read" = some (some (.ref f9)))
    (l9 : K.lookup f9 = some ⟨oc9, od9, .func (PySem.W.fnOf "read" "read" (defArgs sRead) (defBody sRead) (defScope sRead) .none kV9 dc9 pm9 an9 cd9 ct9), sl9⟩)
    (c9 : PySem.W.codeIn K cd9 "read" = true)
    (k9 : PySem.W.keepIn K (.ref f9) = true)
    (a10 : PySem.W.nsIn K mainGlobals "lines_of" = some (some (.ref f10)))
    (l10 : K.lookup f10 = some ⟨oc10, od10, .func (PySem.W.fnOf "lines_of" "lines_of" (defArgs sLinesOf) (defBody sLinesOf) (defScope sLinesOf) .none kV10 dc10 pm10 an10 cd10 ct10), sl10⟩)
    (c10 : PySem.W.codeIn K cd10 "lines_of" = true)
    (k10 : PySem.W.keepIn K (.ref f10) = true)
    (a11 : PySem.W.nsIn K mainGlobals "read_line" = some (some (.ref f11)))
    (l11 : K.lookup f11 = some ⟨oc11, od11, .func (PySem.W.fnOf "read_line" "read_line" (defArgs sReadLine) (defBody sReadLine) (defScope sReadLine) .none kV11 dc11 pm11 an11 cd11 ct11), sl11⟩)
    (c11 : PySem.W.codeIn K cd11 "read_line" = true)
    (k11 : PySem.W.keepIn K (.ref f11) = true)
    (a12 : PySem.W.nsIn K mainGlobals "_law_cell_at" = some (some (.ref f12)))
    (l12 : K.lookup f12 = some ⟨oc12, od12, .func (PySem.W.fnOf "_law_cell_at" "_law_cell_at" (defArgs sCellAt) (defBody sCellAt) (defScope sCellAt) .none kV12 dc12 pm12 an12 cd12 ct12), sl12⟩)
    (c12 : PySem.W.codeIn K cd12 "_law_cell_at" = true)
    (k12 : PySem.W.keepIn K (.ref f12) = true)
    (a13 : PySem.W.nsIn K mainGlobals "_law_whole" = some (some (.ref f13)))
    (l13 : K.lookup f13 = some ⟨oc13, od13, .func (PySem.W.fnOf "_law_whole" "_law_whole" (defArgs sWhole) (defBody sWhole) (defScope sWhole) .none kV13 dc13 pm13 an13 cd13 ct13), sl13⟩)
    (c13 : PySem.W.codeIn K cd13 "_law_whole" = true)
    (k13 : PySem.W.keepIn K (.ref f13) = true)
    (a14 : PySem.W.nsIn K mainGlobals "_law_owners" = some (some (.ref f14)))
    (l14 : K.lookup f14 = some ⟨oc14, od14, .func (PySem.W.fnOf "_law_owners" "_law_owners" (defArgs sOwners) (defBody sOwners) (defScope sOwners) .none kV14 dc14 pm14 an14 cd14 ct14), sl14⟩)
    (c14 : PySem.W.codeIn K cd14 "_law_owners" = true)
    (k14 : PySem.W.keepIn K (.ref f14) = true)
    (a15 : PySem.W.nsIn K mainGlobals "_law_text" = some (some (.ref f15)))
    (l15 : K.lookup f15 = some ⟨oc15, od15, .func (PySem.W.fnOf "_law_text" "_law_text" (defArgs sText) (defBody sText) (defScope sText) .none kV15 dc15 pm15 an15 cd15 ct15), sl15⟩)
    (c15 : PySem.W.codeIn K cd15 "_law_text" = true)
    (k15 : PySem.W.keepIn K (.ref f15) = true)
    (a16 : PySem.W.nsIn K mainGlobals "_law_same" = some (some (.ref f16)))
    (l16 : K.lookup f16 = some ⟨oc16, od16, .func (PySem.W.fnOf "_law_same" "_law_same" (defArgs sSame) (defBody sSame) (defScope sSame) .none kV16 dc16 pm16 an16 cd16 ct16), sl16⟩)
    (c16 : PySem.W.codeIn K cd16 "_law_same" = true)
    (k16 : PySem.W.keepIn K (.ref f16) = true)
    (a17 : PySem.W.nsIn K mainGlobals "_law_sign_by" = some (some (.ref f17)))
    (l17 : K.lookup f17 = some ⟨oc17, od17, .func (PySem.W.fnOf "_law_sign_by" "_law_sign_by" (defArgs sSignBy) (defBody sSignBy) (defScope sSignBy) .none kV17 dc17 pm17 an17 cd17 ct17), sl17⟩)
    (c17 : PySem.W.codeIn K cd17 "_law_sign_by" = true)
    (k17 : PySem.W.keepIn K (.ref f17) = true)
    (a18 : PySem.W.nsIn K mainGlobals "_law_spoiled" = some (some (.ref f18)))
    (l18 : K.lookup f18 = some ⟨oc18, od18, .func (PySem.W.fnOf "_law_spoiled" "_law_spoiled" (defArgs sSpoiled) (defBody sSpoiled) (defScope sSpoiled) .none kV18 dc18 pm18 an18 cd18 ct18), sl18⟩)
    (c18 : PySem.W.codeIn K cd18 "_law_spoiled" = true)
    (k18 : PySem.W.keepIn K (.ref f18) = true)
    (a19 : PySem.W.nsIn K mainGlobals "_law_due" = some (some (.ref f19)))
    (l19 : K.lookup f19 = some ⟨oc19, od19, .func (PySem.W.fnOf "_law_due" "_law_due" (defArgs sDue) (defBody sDue) (defScope sDue) .none kV19 dc19 pm19 an19 cd19 ct19), sl19⟩)
    (c19 : PySem.W.codeIn K cd19 "_law_due" = true)
    (k19 : PySem.W.keepIn K (.ref f19) = true)
    (a20 : PySem.W.nsIn K mainGlobals "law" = some (some (.ref f20)))
    (l20 : K.lookup f20 = some ⟨oc20, od20, .func (PySem.W.fnOf "law" "law" (defArgs sLaw) (defBody sLaw) (defScope sLaw) .none kV20 dc20 pm20 an20 cd20 ct20), sl20⟩)
    (c20 : PySem.W.codeIn K cd20 "law" = true)
    (k20 : PySem.W.keepIn K (.ref f20) = true)
    (pg : PySem.W.plainGet K CB Str.empty = true)
    (hd : PySem.W.hasDictIn K CB = true)
    (po : PySem.W.plainOver K CB = true)
    (sa : PySem.W.findIn K (.ref CB) "__setattr__" = some (some (.builtin "object.__setattr__")))
    (mk : PySem.W.makesIn K CB = true)
    (kc : PySem.W.keepIn K (.ref CB) = true)
    (nH : PySem.W.findIn K (.ref CB) "height" = some none)
    (nW : PySem.W.findIn K (.ref CB) "width" = some none)
    (nO : PySem.W.findIn K (.ref CB) "owners" = some none)
    (eNC : PySem.W.excIn K NC [.type "ValueError", .type "Exception", .type "BaseException", .type "object"] "ValueError.__new__" = true)
    (eNH : PySem.W.excIn K NH [.type "ValueError", .type "Exception", .type "BaseException", .type "object"] "ValueError.__new__" = true)
    (eCT : PySem.W.excIn K CT [.type "ValueError", .type "Exception", .type "BaseException", .type "object"] "ValueError.__new__" = true)
    (eEM : PySem.W.excIn K EM [.type "ValueError", .type "Exception", .type "BaseException", .type "object"] "ValueError.__new__" = true)
    (eNB : PySem.W.excIn K NB [.type "ValueError", .type "Exception", .type "BaseException", .type "object"] "ValueError.__new__" = true)
    (gaNC : PySem.W.findIn K (.ref NC) "__getattribute__" = some (some (.builtin "BaseException.__getattribute__")))
    (grNC : PySem.W.findIn K (.ref NC) "__getattr__" = some none)
    (clNC : PySem.W.findIn K (.ref NC) "__class__" = some (some (.builtin "object.__class__")))
    (obNC : PySem.W.mroIn K NC (.type "object") = some true)
    (beNC : PySem.W.subIn K (.ref NC) (.type "BaseException") = some true)
    (cdNC : PySem.W.clsIn K NC = some cxNC)
    (emNC : PySem.W.exmOne K (.ref NC) (.ref CE) = some true)
    (qvNC : PySem.W.kitOne K (.ref NC) (.type "ValueError") = some true)
    (qNCNC : PySem.W.kitOne K (.ref NC) (.ref NC) = some true)
    (qNCNH : PySem.W.kitOne K (.ref NC) (.ref NH) = some false)
    (qNCCT : PySem.W.kitOne K (.ref NC) (.ref CT) = some false)
    (qNCEM : PySem.W.kitOne K (.ref NC) (.ref EM) = some false)
    (qNCNB : PySem.W.kitOne K (.ref NC) (.ref NB) = some false)
    (gaNH : PySem.W.findIn K (.ref NH) "__getattribute__" = some (some (.builtin "BaseException.__getattribute__")))
    (grNH : PySem.W.findIn K (.ref NH) "__getattr__" = some none)
    (clNH : PySem.W.findIn K (.ref NH) "__class__" = some (some (.builtin "object.__class__")))
    (obNH : PySem.W.mroIn K NH (.type "object") = some true)
    (beNH : PySem.W.subIn K (.ref NH) (.type "BaseException") = some true)
    (cdNH : PySem.W.clsIn K NH = some cxNH)
    (emNH : PySem.W.exmOne K (.ref NH) (.ref CE) = some true)
    (qvNH : PySem.W.kitOne K (.ref NH) (.type "ValueError") = some true)
    (qNHNC : PySem.W.kitOne K (.ref NH) (.ref NC) = some false)
    (qNHNH : PySem.W.kitOne K (.ref NH) (.ref NH) = some true)
    (qNHCT : PySem.W.kitOne K (.ref NH) (.ref CT) = some false)
    (qNHEM : PySem.W.kitOne K (.ref NH) (.ref EM) = some false)
    (qNHNB : PySem.W.kitOne K (.ref NH) (.ref NB) = some false)
    (gaCT : PySem.W.findIn K (.ref CT) "__getattribute__" = some (some (.builtin "BaseException.__getattribute__")))
    (grCT : PySem.W.findIn K (.ref CT) "__getattr__" = some none)
    (clCT : PySem.W.findIn K (.ref CT) "__class__" = some (some (.builtin "object.__class__")))
    (obCT : PySem.W.mroIn K CT (.type "object") = some true)
    (beCT : PySem.W.subIn K (.ref CT) (.type "BaseException") = some true)
    (cdCT : PySem.W.clsIn K CT = some cxCT)
    (emCT : PySem.W.exmOne K (.ref CT) (.ref CE) = some true)
    (qvCT : PySem.W.kitOne K (.ref CT) (.type "ValueError") = some true)
    (qCTNC : PySem.W.kitOne K (.ref CT) (.ref NC) = some false)
    (qCTNH : PySem.W.kitOne K (.ref CT) (.ref NH) = some false)
    (qCTCT : PySem.W.kitOne K (.ref CT) (.ref CT) = some true)
    (qCTEM : PySem.W.kitOne K (.ref CT) (.ref EM) = some false)
    (qCTNB : PySem.W.kitOne K (.ref CT) (.ref NB) = some false)
    (gaEM : PySem.W.findIn K (.ref EM) "__getattribute__" = some (some (.builtin "BaseException.__getattribute__")))
    (grEM : PySem.W.findIn K (.ref EM) "__getattr__" = some none)
    (clEM : PySem.W.findIn K (.ref EM) "__class__" = some (some (.builtin "object.__class__")))
    (obEM : PySem.W.mroIn K EM (.type "object") = some true)
    (beEM : PySem.W.subIn K (.ref EM) (.type "BaseException") = some true)
    (cdEM : PySem.W.clsIn K EM = some cxEM)
    (emEM : PySem.W.exmOne K (.ref EM) (.ref CE) = some true)
    (qvEM : PySem.W.kitOne K (.ref EM) (.type "ValueError") = some true)
    (qEMNC : PySem.W.kitOne K (.ref EM) (.ref NC) = some false)
    (qEMNH : PySem.W.kitOne K (.ref EM) (.ref NH) = some false)
    (qEMCT : PySem.W.kitOne K (.ref EM) (.ref CT) = some false)
    (qEMEM : PySem.W.kitOne K (.ref EM) (.ref EM) = some true)
    (qEMNB : PySem.W.kitOne K (.ref EM) (.ref NB) = some false)
    (emNB : PySem.W.exmOne K (.ref NB) (.ref NB) = some true)
    (e4 : PySem.W.kitOne K (.type "list") (.type "list") = some true)
    (e5 : PySem.W.kitOne K (.type "tuple") (.type "tuple") = some true)
    (e6 : PySem.W.kitOne K (.type "int") (.type "int") = some true)
    (e7 : PySem.W.kitOne K (.type "int") (.type "bool") = some false)
    (gaNB : PySem.W.findIn K (.ref NB) "__getattribute__" = some (some (.builtin "BaseException.__getattribute__")))
    (grNB : PySem.W.findIn K (.ref NB) "__getattr__" = some none)
    (clNB : PySem.W.findIn K (.ref NB) "__class__" = some (some (.builtin "object.__class__")))
    (obNB : PySem.W.mroIn K NB (.type "object") = some true)
    (beNB : PySem.W.subIn K (.ref NB) (.type "BaseException") = some true)
    (cdNB : PySem.W.clsIn K NB = some cxNB)
    (enNB : PySem.W.exmOne K (.ref NB) (.ref CE) = some true)
    (qvNB : PySem.W.kitOne K (.ref NB) (.type "ValueError") = some true)
    (qNBNC : PySem.W.kitOne K (.ref NB) (.ref NC) = some false)
    (qNBNH : PySem.W.kitOne K (.ref NB) (.ref NH) = some false)
    (qNBCT : PySem.W.kitOne K (.ref NB) (.ref CT) = some false)
    (qNBEM : PySem.W.kitOne K (.ref NB) (.ref EM) = some false)
    (qNBNB : PySem.W.kitOne K (.ref NB) (.ref NB) = some true)
    (aS : PySem.W.nsIn K mainGlobals "SIGNS" = some (some (.str (Str.ofString ".12") tS)))
    (z1 : PySem.W.nsIn K mainGlobals "len" = some none)
    (z2 : PySem.W.nsIn K mainGlobals "isinstance" = some none)
    (z3 : PySem.W.nsIn K mainGlobals "range" = some none)
    (z4 : PySem.W.nsIn K mainGlobals "int" = some none)
    (z5 : PySem.W.nsIn K mainGlobals "bool" = some none)
    (z6 : PySem.W.nsIn K mainGlobals "list" = some none)
    (z7 : PySem.W.nsIn K mainGlobals "tuple" = some none)
    (z8 : PySem.W.nsIn K mainGlobals "ValueError" = some none) :
    ∃ fd : FuncData, (∀ (s : Shared) (v : Value), BindsTo s fd ⟨[v], []⟩ [("script", v)]) ∧ ∀ base : Heap, K.In base → base.Ns mainGlobals mg → FnOk l.prog w K mg base (CX1 l.prog w) 5 fa fd ["script"] (spLaw K) := by
  have e := hfa.symm.trans (PySem.W.mg_of X G a20)
  cases e
  have F1 := fun_mk (st := sInit) l1 c1 k1
  have b1 := F1.binds (ps := ["self", "rows", "columns"]) fun _ _ _ _ _ _ us hl => match us, hl with | [_, _, _], _ => rfl
  have m1 : Meth K CB "__init__" f1 := ⟨a1, i1, k1⟩
  have F2 := fun_mk (st := sRows) l2 c2 k2
  have b2 := F2.binds (ps := ["self"]) fun _ _ _ _ _ _ us hl => match us, hl with | [_], _ => rfl
  have m2 : Meth K CB "rows" f2 := ⟨a2, i2, k2⟩
  have F3 := fun_mk (st := sCols) l3 c3 k3
  have b3 := F3.binds (ps := ["self"]) fun _ _ _ _ _ _ us hl => match us, hl with | [_], _ => rfl
  have m3 : Meth K CB "columns" f3 := ⟨a3, i3, k3⟩
  have F4 := fun_mk (st := sPut) l4 c4 k4
  have b4 := F4.binds (ps := ["self", "cell", "hand"]) fun _ _ _ _ _ _ us hl => match us, hl with | [_, _, _], _ => rfl
  have m4 : Meth K CB "put" f4 := ⟨a4, i4, k4⟩
  have F5 := fun_mk (st := sOwner) l5 c5 k5
  have b5 := F5.binds (ps := ["self", "cell"]) fun _ _ _ _ _ _ us hl => match us, hl with | [_, _], _ => rfl
  have m5 : Meth K CB "owner" f5 := ⟨a5, i5, k5⟩
  have F6 := fun_mk (st := sCheck) l6 c6 k6
  have b6 := F6.binds (ps := ["self", "cell"]) fun _ _ _ _ _ _ us hl => match us, hl with | [_, _], _ => rfl
  have m6 : Meth K CB "check_cell" f6 := ⟨a6, i6, k6⟩
  have F7 := fun_mk (st := sHand) l7 c7 k7
  have b7 := F7.binds (ps := ["hand"]) fun _ _ _ _ _ _ us hl => match us, hl with | [_], _ => rfl
  have g7 := PySem.W.mg_of X G a7
  have F8 := fun_mk (st := sLen) l8 c8 k8
  have b8 := F8.binds (ps := ["number"]) fun _ _ _ _ _ _ us hl => match us, hl with | [_], _ => rfl
  have g8 := PySem.W.mg_of X G a8
  have F9 := fun_mk (st := sRead) l9 c9 k9
  have b9 := F9.binds (ps := ["text"]) fun _ _ _ _ _ _ us hl => match us, hl with | [_], _ => rfl
  have g9 := PySem.W.mg_of X G a9
  have F10 := fun_mk (st := sLinesOf) l10 c10 k10
  have b10 := F10.binds (ps := ["text"]) fun _ _ _ _ _ _ us hl => match us, hl with | [_], _ => rfl
  have g10 := PySem.W.mg_of X G a10
  have F11 := fun_mk (st := sReadLine) l11 c11 k11
  have b11 := F11.binds (ps := ["board", "row", "line"]) fun _ _ _ _ _ _ us hl => match us, hl with | [_, _, _], _ => rfl
  have g11 := PySem.W.mg_of X G a11
  have F12 := fun_mk (st := sCellAt) l12 c12 k12
  have b12 := F12.binds (ps := ["script", "k"]) fun _ _ _ _ _ _ us hl => match us, hl with | [_, _], _ => rfl
  have g12 := PySem.W.mg_of X G a12
  have F13 := fun_mk (st := sWhole) l13 c13 k13
  have b13 := F13.binds (ps := ["found"]) fun _ _ _ _ _ _ us hl => match us, hl with | [_], _ => rfl
  have g13 := PySem.W.mg_of X G a13
  have F14 := fun_mk (st := sOwners) l14 c14 k14
  have b14 := F14.binds (ps := ["script", "first", "rows", "columns"]) fun _ _ _ _ _ _ us hl => match us, hl with | [_, _, _, _], _ => rfl
  have g14 := PySem.W.mg_of X G a14
  have F15 := fun_mk (st := sText) l15 c15 k15
  have b15 := F15.binds (ps := ["rows", "columns", "owners"]) fun _ _ _ _ _ _ us hl => match us, hl with | [_, _, _], _ => rfl
  have g15 := PySem.W.mg_of X G a15
  have F16 := fun_mk (st := sSame) l16 c16 k16
  have b16 := F16.binds (ps := ["board", "rows", "columns", "owners"]) fun _ _ _ _ _ _ us hl => match us, hl with | [_, _, _, _], _ => rfl
  have g16 := PySem.W.mg_of X G a16
  have F17 := fun_mk (st := sSignBy) l17 c17 k17
  have b17 := F17.binds (ps := ["cell"]) fun _ _ _ _ _ _ us hl => match us, hl with | [_], _ => rfl
  have g17 := PySem.W.mg_of X G a17
  have F18 := fun_mk (st := sSpoiled) l18 c18 k18
  have b18 := F18.binds (ps := ["text", "cell"]) fun _ _ _ _ _ _ us hl => match us, hl with | [_, _], _ => rfl
  have g18 := PySem.W.mg_of X G a18
  have F19 := fun_mk (st := sDue) l19 c19 k19
  have b19 := F19.binds (ps := ["text"]) fun _ _ _ _ _ _ us hl => match us, hl with | [_], _ => rfl
  have g19 := PySem.W.mg_of X G a19
  have F20 := fun_mk (st := sLaw) l20 c20 k20
  have g20 := PySem.W.mg_of X G a20
  refine ⟨PySem.W.fnOf "law" "law" (defArgs sLaw) (defBody sLaw) (defScope sLaw) .none kV20 dc20 pm20 an20 cd20 ct20, fun s v => .of_eq rfl, fun base _ _ => ?_⟩
  have T : Txt K mg ⟨CB, CE, NC, NH, CT, EM, NB⟩ := ⟨⟨pg, hd, po, sa⟩, nH, nW, nO, PySem.W.mg_of X G aB, ⟨tm, PySem.W.mg_of X G aM⟩, PySem.W.mg_of X G aE,
    ⟨⟨PySem.W.mg_of X G xNC, eNC⟩, ⟨gaNC, grNC, clNC, obNC, beNC⟩, ⟨_, cdNC⟩, qNCNC, qNCNH, qNCCT, qNCEM, qNCNB, qvNC, emNC⟩,
    ⟨⟨PySem.W.mg_of X G xNH, eNH⟩, ⟨gaNH, grNH, clNH, obNH, beNH⟩, ⟨_, cdNH⟩, qNHNC, qNHNH, qNHCT, qNHEM, qNHNB, qvNH, emNH⟩,
    ⟨⟨PySem.W.mg_of X G xCT, eCT⟩, ⟨gaCT, grCT, clCT, obCT, beCT⟩, ⟨_, cdCT⟩, qCTNC, qCTNH, qCTCT, qCTEM, qCTNB, qvCT, emCT⟩,
    ⟨⟨PySem.W.mg_of X G xEM, eEM⟩, ⟨gaEM, grEM, clEM, obEM, beEM⟩, ⟨_, cdEM⟩, qEMNC, qEMNH, qEMCT, qEMEM, qEMNB, qvEM, emEM⟩,
    ⟨PySem.W.mg_of X G xNB, eNB⟩, emNB, PySem.W.mg_none_of X G z1, PySem.W.mg_none_of X G z2, PySem.W.mg_none_of X G z3, PySem.W.mg_none_of X G z4, PySem.W.mg_none_of X G z5, PySem.W.mg_none_of X G z6, PySem.W.mg_none_of X G z7, PySem.W.mg_none_of X G z8, e4, e5, e6, e7⟩
  have GC := ok_check (P := l.prog) (w := w) (base := base) F6 T
  have GI := ok_init (P := l.prog) (w := w) (base := base) F1 T (ok_len F8 T) k8 b8 g8
  have M : Mk K CB f1 := ⟨mk, a1, i1, kc⟩
  have Z : ExcK K mg ⟨CB, CE, NC, NH, CT, EM, NB⟩ "NoBoard" NB false false false false true := ⟨⟨PySem.W.mg_of X G xNB, eNB⟩, ⟨gaNB, grNB, clNB, obNB, beNB⟩, ⟨_, cdNB⟩, qNBNC, qNBNH, qNBCT, qNBEM, qNBNB, qvNB, enNB⟩
  have GA := ok_cellAt (P := l.prog) (w := w) (base := base) F12 T
  have GH := ok_hand (P := l.prog) (w := w) (base := base) F7 T
  have GR := ok_rows (P := l.prog) (w := w) (base := base) F2 T
  have GS := ok_cols (P := l.prog) (w := w) (base := base) F3 T
  have GP := ok_put F4 T GC b6 m6 GH k7 b7 g7
  have GO := ok_owner F5 T GC b6 m6
  have GRL := ok_readLine F11 T ⟨tS, PySem.W.mg_of X G aS⟩ GP b4 m4
  have GRd := ok_read F9 T M GI b1 (ok_lines F10 T) k10 b10 g10 GS b3 m3 GRL k11 b11 g11
  have GSp := ok_spoiled F18 T (ok_signBy (P := l.prog) (w := w) (base := base) F17 T) k17 b17 g17
  have GE := ok_same F16 T GR b2 m2 GS b3 m3 GO b5 m5 (ok_whole F13 T) k13 b13 g13
  exact ok_law F20 T Z GA k12 b12 g12 (ok_owners F14 T GA k12 b12 g12) k14 b14 g14 (ok_text F15 T) k15 b15 g15 GSp k18 b18 g18 (ok_due F19 T) k19 b19 g19 GRd k9 b9 g9 GE k16 b16 g16
theorem walk {l : PySem.W.OpenLaw} {q : Program} {loose : List Str} {XP : (Str → Option Value) → Heap → Prop} {YP : World → Heap → Prop} {d : DefRec} {K : Params → PySem.W.Frag} (hn : l.most = some 63) (hdf : d.params.defaults = [])
    (hY : ∀ (w : World) (h : Heap), YP w h → (K w.params).In h)
    (F : ∀ (w : World) (mg : Str → Option Value) (fa : Addr) (h : Heap), (K w.params).In h → h.Ns mainGlobals mg → mg d.name = some (.ref fa) →
      ∃ fd : FuncData, (∀ (s : Shared) (u : Value), BindsTo s fd ⟨[u], []⟩ [("script", u)]) ∧ ∀ base : Heap, (K w.params).In base → base.Ns mainGlobals mg → FnOk l.prog w (K w.params) mg base (CX1 l.prog w) 5 fa fd ["script"] (spLaw (K w.params))) :
    PySem.W.WalkO q loose XP YP l.row.toRowW d [] (fun f vs => PySem.call f vs) :=
  L2.walk_of (n := 63) (k := 5) (x := "script") (CX := fun w => CX1 l.prog w) (sp := fun w => spLaw (K w.params)) hn (by decide) hdf ⟨rfl, by decide, by decide⟩ hY F (fun _ _ a ns hl _ hS => ⟨a, ns, rfl, hS, hl, fun _ => rfl⟩) fun _ _ _ _ _ ⟨_, _, _, _, _, z⟩ => z
end K13
open PySem PySem.W PyProof.Rows
set_option maxRecDepth 100000 in
set_option maxHeartbeats 0 in
theorem PySem.Challenge.cw_sidechain_k13_boards_read_or_refused_holds : PySem.Challenge.rw_sidechain_k13_boards_read_or_refused.Holds := by
  w_on; o_law; k_head; (case hw => w_witness2)
  k_fill
  refine K13.walk (l := PySem.Challenge.rw_sidechain_k13_boards_read_or_refused) rfl rfl (fun w h Y => PySem.W.kIn_of Y) ?F
  case F =>
    intro w mg fa h KX G hmg
    refine' K13.all_mk KX G hmg ?aB ?aE ?aM ?xNC ?xNH ?xCT ?xEM ?xNB ?a1 ?i1 ?l1 ?c1 ?k1 ?a2 ?i2 ?l2 ?c2 ?k2 ?a3 ?i3 ?l3 ?c3 ?k3 ?a4 ?i4 ?l4 ?c4 ?k4 ?a5 ?i5 ?l5 ?c5 ?k5 ?a6 ?i6 ?l6 ?c6 ?k6 ?a7 ?l7 ?c7 ?k7 ?a8 ?l8 ?c8 ?k8 ?a9 ?l9 ?c9 ?k9 ?a10 ?l10 ?c10 ?k10 ?a11 ?l11 ?c11 ?k11 ?a12 ?l12 ?c12 ?k12 ?a13 ?l13 ?c13 ?k13 ?a14 ?l14 ?c14 ?k14 ?a15 ?l15 ?c15 ?k15 ?a16 ?l16 ?c16 ?k16 ?a17 ?l17 ?c17 ?k17 ?a18 ?l18 ?c18 ?k18 ?a19 ?l19 ?c19 ?k19 ?a20 ?l20 ?c20 ?k20 ?pg ?hd ?po ?sa ?mk ?kc ?nH ?nW ?nO ?eNC ?eNH ?eCT ?eEM ?eNB ?gaNC ?grNC ?clNC ?obNC ?beNC ?cdNC ?emNC ?qvNC ?qNCNC ?qNCNH ?qNCCT ?qNCEM ?qNCNB ?gaNH ?grNH ?clNH ?obNH ?beNH ?cdNH ?emNH ?qvNH ?qNHNC ?qNHNH ?qNHCT ?qNHEM ?qNHNB ?gaCT ?grCT ?clCT ?obCT ?beCT ?cdCT ?emCT ?qvCT ?qCTNC ?qCTNH ?qCTCT ?qCTEM ?qCTNB ?gaEM ?grEM ?clEM ?obEM ?beEM ?cdEM ?emEM ?qvEM ?qEMNC ?qEMNH ?qEMCT ?qEMEM ?qEMNB ?emNB ?e4 ?e5 ?e6 ?e7 ?gaNB ?grNB ?clNB ?obNB ?beNB ?cdNB ?enNB ?qvNB ?qNBNC ?qNBNH ?qNBCT ?qNBEM ?qNBNB ?aS ?z1 ?z2 ?z3 ?z4 ?z5 ?z6 ?z7 ?z8
    (case aB => k_is)
    (case aE => k_is)
    (case aM => k_is)
    (case xNC => k_is)
    (case xNH => k_is)
    (case xCT => k_is)
    (case xEM => k_is)
    (case xNB => k_is)
    (case a1 => k_is)
    (case i1 => k_is)
    (case l1 => k_is)
    (case c1 => k_is)
    (case k1 => k_is)
    (case a2 => k_is)
    (case i2 => k_is)
    (case l2 => k_is)
    (case c2 => k_is)
    (case k2 => k_is)
    (case a3 => k_is)
    (case i3 => k_is)
    (case l3 => k_is)
    (case c3 => k_is)
    (case k3 => k_is)
    (case a4 => k_is)
    (case i4 => k_is)
    (case l4 => k_is)
    (case c4 => k_is)
    (case k4 => k_is)
    (case a5 => k_is)
    (case i5 => k_is)
    (case l5 => k_is)
    (case c5 => k_is)
    (case k5 => k_is)
    (case a6 => k_is)
    (case i6 => k_is)
    (case l6 => k_is)
    (case c6 => k_is)
    (case k6 => k_is)
    (case a7 => k_is)
    (case l7 => k_is)
    (case c7 => k_is)
    (case k7 => k_is)
    (case a8 => k_is)
    (case l8 => k_is)
    (case c8 => k_is)
    (case k8 => k_is)
    (case a9 => k_is)
    (case l9 => k_is)
    (case c9 => k_is)
    (case k9 => k_is)
    (case a10 => k_is)
    (case l10 => k_is)
    (case c10 => k_is)
    (case k10 => k_is)
    (case a11 => k_is)
    (case l11 => k_is)
    (case c11 => k_is)
    (case k11 => k_is)
    (case a12 => k_is)
    (case l12 => k_is)
    (case c12 => k_is)
    (case k12 => k_is)
    (case a13 => k_is)
    (case l13 => k_is)
    (case c13 => k_is)
    (case k13 => k_is)
    (case a14 => k_is)
    (case l14 => k_is)
    (case c14 => k_is)
    (case k14 => k_is)
    (case a15 => k_is)
    (case l15 => k_is)
    (case c15 => k_is)
    (case k15 => k_is)
    (case a16 => k_is)
    (case l16 => k_is)
    (case c16 => k_is)
    (case k16 => k_is)
    (case a17 => k_is)
    (case l17 => k_is)
    (case c17 => k_is)
    (case k17 => k_is)
    (case a18 => k_is)
    (case l18 => k_is)
    (case c18 => k_is)
    (case k18 => k_is)
    (case a19 => k_is)
    (case l19 => k_is)
    (case c19 => k_is)
    (case k19 => k_is)
    (case a20 => k_is)
    (case l20 => k_is)
    (case c20 => k_is)
    (case k20 => k_is)
    (case pg => k_is)
    (case hd => k_is)
    (case po => k_is)
    (case sa => k_is)
    (case mk => k_is)
    (case kc => k_is)
    (case nH => k_is)
    (case nW => k_is)
    (case nO => k_is)
    (case eNC => k_exc)
    (case eNH => k_exc)
    (case eCT => k_exc)
    (case eEM => k_exc)
    (case eNB => k_exc)
    (case gaNC => k_is)
    (case grNC => k_is)
    (case clNC => k_is)
    (case obNC => k_is)
    (case beNC => k_is)
    (case cdNC => k_is)
    (case emNC => kts_exm)
    (case qvNC => kit_is)
    (case qNCNC => kit_is)
    (case qNCNH => kit_is)
    (case qNCCT => kit_is)
    (case qNCEM => kit_is)
    (case qNCNB => kit_is)
    (case gaNH => k_is)
    (case grNH => k_is)
    (case clNH => k_is)
    (case obNH => k_is)
    (case beNH => k_is)
    (case cdNH => k_is)
    (case emNH => kts_exm)
    (case qvNH => kit_is)
    (case qNHNC => kit_is)
    (case qNHNH => kit_is)
    (case qNHCT => kit_is)
    (case qNHEM => kit_is)
    (case qNHNB => kit_is)
    (case gaCT => k_is)
    (case grCT => k_is)
    (case clCT => k_is)
    (case obCT => k_is)
    (case beCT => k_is)
    (case cdCT => k_is)
    (case emCT => kts_exm)
    (case qvCT => kit_is)
    (case qCTNC => kit_is)
    (case qCTNH => kit_is)
    (case qCTCT => kit_is)
    (case qCTEM => kit_is)
    (case qCTNB => kit_is)
    (case gaEM => k_is)
    (case grEM => k_is)
    (case clEM => k_is)
    (case obEM => k_is)
    (case beEM => k_is)
    (case cdEM => k_is)
    (case emEM => kts_exm)
    (case qvEM => kit_is)
    (case qEMNC => kit_is)
    (case qEMNH => kit_is)
    (case qEMCT => kit_is)
    (case qEMEM => kit_is)
    (case qEMNB => kit_is)
    (case emNB => kts_exm)
    (case e4 => kit_is)
    (case e5 => kit_is)
    (case e6 => kit_is)
    (case e7 => kit_is)
    (case gaNB => k_is)
    (case grNB => k_is)
    (case clNB => k_is)
    (case obNB => k_is)
    (case beNB => k_is)
    (case cdNB => k_is)
    (case enNB => kts_exm)
    (case qvNB => kit_is)
    (case qNBNC => kit_is)
    (case qNBNH => kit_is)
    (case qNBCT => kit_is)
    (case qNBEM => kit_is)
    (case qNBNB => kit_is)
    (case aS => k_is)
    (case z1 => k_is)
    (case z2 => k_is)
    (case z3 => k_is)
    (case z4 => k_is)
    (case z5 => k_is)
    (case z6 => k_is)
    (case z7 => k_is)
    (case z8 => k_is)
#print axioms PySem.Challenge.cw_sidechain_k13_boards_read_or_refused_holds


