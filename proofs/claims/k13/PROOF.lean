import PyProof.Rows.All
import Wide.All
import OpenK.AllK
import Wide.FinOn
import Lean
import PyProof.EqAt
import PyProof.EqKinds
import PyProof.TupleCall
import PySem.Challenge.RW_shelfruns_k13_written_and_read
set_option Elab.async false
set_option linter.all false
set_option maxRecDepth 100000
namespace L2
open PySem PySem.Spec PyProof.Rows

abbrev Key := Sum Int Str
def keyIs : Key → Value → Bool
  | .inl k, v => Value.isInt k v
  | .inr x, v => Value.isStrOf x v
def keyH (w : World) : Key → Int
  | .inl k => hashInt k
  | .inr x => hashStr w x
theorem keyIs_shape : ∀ {k : Key} {v : Value}, keyIs k v = true → (∃ i t, k = Sum.inl i ∧ v = Value.int i t) ∨ (∃ x t, k = Sum.inr x ∧ v = Value.str x t)
  | .inl i, v, h => by
    obtain ⟨t, e⟩ := Value.isInt_shape (k := i) (v := v) h
    exact .inl ⟨i, t, rfl, e⟩
  | .inr x, v, h => by
    obtain ⟨t, e⟩ := Value.isStrOf_shape (x := x) (v := v) h
    exact .inr ⟨x, t, rfl, e⟩
theorem key_ll (a b : Int) : decide ((Sum.inl a : Key) = Sum.inl b) = (a == b) := by
  by_cases e : a = b
  · subst e; simp
  · have h : ¬ (Sum.inl a : Key) = Sum.inl b := fun q => e (Sum.inl.inj q)
    rw [decide_eq_false h]
    exact (beq_eq_false_iff_ne.mpr e).symm
theorem key_rr (a b : Str) : decide ((Sum.inr a : Key) = Sum.inr b) = decide (a = b) := by
  by_cases e : a = b
  · subst e; simp
  · have h : ¬ (Sum.inr a : Key) = Sum.inr b := fun q => e (Sum.inr.inj q)
    rw [decide_eq_false h, decide_eq_false e]
theorem key_lr (a : Int) (b : Str) : decide ((Sum.inl a : Key) = Sum.inr b) = false := decide_eq_false (fun q => nomatch q)
theorem key_rl (a : Str) (b : Int) : decide ((Sum.inr a : Key) = Sum.inl b) = false := decide_eq_false (fun q => nomatch q)

def mixKind (prog : Program) (w : World) : PySem.KeyKind prog w Key where
  is := keyIs
  hash := keyH w
  inj := fun v a b ha hb => by
    rcases keyIs_shape ha with ⟨i, t, rfl, rfl⟩ | ⟨x, t, rfl, rfl⟩
    · rcases keyIs_shape hb with ⟨j, u, rfl, e⟩ | ⟨y, u, rfl, e⟩
      · injection e with e1 _; rw [e1]
      · exact nomatch e
    · rcases keyIs_shape hb with ⟨j, u, rfl, e⟩ | ⟨y, u, rfl, e⟩
      · exact nomatch e
      · injection e with e1 _; rw [e1]
  byValue := fun k v h => by
    rcases keyIs_shape h with ⟨i, t, rfl, rfl⟩ | ⟨x, t, rfl, rfl⟩ <;> rfl
  pyHash := fun hv h => by
    rcases keyIs_shape hv with ⟨i, t, rfl, rfl⟩ | ⟨x, t, rfl, rfl⟩
    · exact wpAny_pyHash_int h
    · exact wpAny_pyHash_str h
  eqBool := fun hu hv h => by
    rcases keyIs_shape hu with ⟨i, t, rfl, rfl⟩ | ⟨x, t, rfl, rfl⟩
    · rcases keyIs_shape hv with ⟨j, u, rfl, rfl⟩ | ⟨y, u, rfl, rfl⟩
      · rw [key_ll] at h; exact wpAny_eqBool_int h
      · rw [key_lr] at h; exact SeqAt.EqAt.int_str i t y u _ _ _ _ h
    · rcases keyIs_shape hv with ⟨j, u, rfl, rfl⟩ | ⟨y, u, rfl, rfl⟩
      · rw [key_rl] at h; exact SeqAt.EqAt.str_int x t j u _ _ _ _ h
      · rw [key_rr] at h; exact wpAny_eqBool_str h
  «strs» := fun k x t v h => by
    rcases keyIs_shape h with ⟨i, u, rfl, e⟩ | ⟨y, u, rfl, e⟩
    · exact nomatch e
    · injection e with e1 _
      subst e1
      cases v <;> rfl

end L2

namespace L2
open PySem PySem.Spec PyProof.Rows

inductive V where
  | non | bl (b : Bool) | int (i : Int) | str (x : Str) | byt (b : Array UInt8) | flt (b : UInt64) | ref (a : Addr) | ty (n : String)
  deriving DecidableEq

def RelV : V → Value → Prop
  | .non, u => u = Value.none
  | .bl b, u => u = Value.bool b
  | .int i, u => ∃ t, u = Value.int i t
  | .str x, u => ∃ t, u = Value.str x t
  | .byt b, u => ∃ t, u = Value.bytes b t
  | .flt b, u => ∃ t, u = Value.float b t
  | .ref a, u => u = Value.ref a
  | .ty n, u => u = Value.type n

abbrev Vals : List V → List Value → Prop := Paired RelV
theorem Vals.length {xs : List V} {us : List Value} (r : Vals xs us) : xs.length = us.length := Paired.length r
theorem Vals.get : ∀ {xs : List V} {us : List Value} {i : Nat} {x : V}, Vals xs us → xs[i]? = some x → ∃ u, us[i]? = some u ∧ RelV x u
  | _, _, _, _, .nil, e => by simp at e
  | _, _, 0, _, .cons r _, e => by simp at e; subst e; exact ⟨_, rfl, r⟩
  | _, _, i + 1, x, .cons _ t, e => by
    obtain ⟨u, h1, h2⟩ := Vals.get (i := i) (x := x) t (by simpa using e)
    exact ⟨u, by simpa using h1, h2⟩
theorem Vals.set {x : V} {u : Value} (r : RelV x u) : ∀ {xs : List V} {us : List Value} (i : Nat), Vals xs us → Vals (xs.set i x) (us.set i u)
  | _, _, _, .nil => .nil
  | _, _, 0, .cons _ t => .cons r t
  | _, _, i + 1, .cons q t => .cons q (Vals.set r i t)
theorem Vals.append : ∀ {xs ys : List V} {us ws : List Value}, Vals xs us → Vals ys ws → Vals (xs ++ ys) (us ++ ws)
  | _, _, _, _, .nil, s => s
  | _, _, _, _, .cons r t, s => .cons r (Vals.append t s)
theorem Vals.take : ∀ {xs : List V} {us : List Value} (n : Nat), Vals xs us → Vals (xs.take n) (us.take n)
  | _, _, 0, _ => .nil
  | _, _, _ + 1, .nil => .nil
  | _, _, n + 1, .cons r t => .cons r (Vals.take n t)
theorem Vals.drop : ∀ {xs : List V} {us : List Value} (n : Nat), Vals xs us → Vals (xs.drop n) (us.drop n)
  | _, _, 0, r => r
  | _, _, _ + 1, .nil => .nil
  | _, _, n + 1, .cons _ t => Vals.drop n t

def RelO : Option V → Option Value → Prop
  | some v, some u => RelV v u
  | none, none => True
  | _, _ => False
def KV {κ : Type} : List (κ × V) → List (κ × Value) → Prop := Paired fun (p : κ × V) (q : κ × Value) => p.1 = q.1 ∧ RelV p.2 q.2

def kV : Key → V
  | .inl i => .int i
  | .inr x => .str x

inductive HO where
  /-- a list -/
  | lst (xs : List V)
  /-- a tuple (never changes) -/
  | tup (xs : List V)
  /-- a dict whose keys are ints and texts; one whose keys are tuples of ints and texts (the empty one is both) -/
  | dK (kvs : List (Key × V)) | dT (kvs : List (List Key × V))
  /-- a set of ints: its members, its size -/
  | set (S : Int → Bool) (n : Nat)
  /-- an instance of the class at C, its dict at dx, its attributes -/
  | ins (C dx : Addr) (fs : List (Str × V))
  /-- the dict of the instance at x -/
  | own (x : Addr)
  /-- the dict of an exception -/
  | xd (fs : List (Str × V))
  /-- a bound method, f of x -/
  | met (f x : Addr)
  /-- a range object lo, lo + 1, .. below hi -/
  | rng (lo hi : Int)
  /-- a thing that is known to the object (the script; a dict while a loop walks it): read, never written while it is so -/
  | frz (o : Obj) (u : HO)
  /-- a code object's table -/
  | tbl (ps : Array Value)
  /-- any other thing, by what is true of its one object (a def of one's own: SetO a S n := HO.ext fun h => ..) -/
  | ext (φ : Heap → Prop)

abbrev Hp := Addr → Option HO
def upd (H : Hp) (a : Addr) (o : HO) : Hp := fun b => if b = a then some o else H b
theorem upd_same {H : Hp} {a : Addr} {o : HO} : upd H a o a = some o := by unfold upd; rw [if_pos rfl]
theorem upd_ne {H : Hp} {a b : Addr} {o : HO} (h : b ≠ a) : upd H a o b = H b := by unfold upd; rw [if_neg h]
theorem ne_of {H : Hp} {a b : Addr} {o u : HO} (h : H a = some o) (h' : H b = some u) (d : o ≠ u) : a ≠ b := by
  intro e; subst e; rw [h] at h'; exact d (Option.some.inj h')
theorem ne_of_none {H : Hp} {a b : Addr} {o : HO} (h : H a = some o) (h' : H b = none) : a ≠ b := by
  intro e; subst e; rw [h] at h'; cases h'

section
variable (P : Program) (w : World)
def ObjOk (H : Hp) (h : Heap) (a : Addr) : HO → Prop
  | .lst xs => xs.length ≤ sizeLine ∧ ∃ (its : List Value) (n : Nat), Vals xs its ∧ h.get? a = some { cls := .type "list", data := .seq its.toArray n }
  | .tup xs => xs.length ≤ sizeLine ∧ ∃ its : List Value, Vals xs its ∧ IsTup h a its.toArray
  | .dK kvs => kvs.length ≤ sizeLine ∧ (a == sysModules) = false ∧ ∃ vs, KV kvs vs ∧ h.DictOf (mixKind P w) a vs
  | .dT kvs => kvs.length ≤ sizeLine ∧ (a == sysModules) = false ∧ ∃ xs : List (List Key × Addr × Value),
      Paired (fun (p : List Key × V) (q : List Key × Addr × Value) => p.1 = q.1 ∧ H q.2.1 = some (.tup (p.1.map kV)) ∧ RelV p.2 q.2.2) kvs xs ∧
      ∃ o es ep, h.get? a = some o ∧ o.ExactDict ∧ o.data = .dict es ep ∧ es.toList = xs.map (entryOfKey (tupleKind (mixKind P w))) ∧ (xs.map (·.1)).Nodup
  | .set S n => h.SetOf (intKind P w) a S n
  | .ins C dx fs => H dx = some (.own a) ∧ fs.length ≤ 1000 ∧ dx ≠ a ∧ h.get? a = some (PySem.W.instObj C dx) ∧
      ∃ mA, h.Ns1 dx mA ∧ (∀ f, RelO (fs.lookup f) (mA f)) ∧ PySem.Within mA (fs.map (·.1))
  | .own _ => ∃ o, h.get? a = some o
  | .xd fs => ∃ mA, h.Ns1 a mA ∧ ∀ f, RelO (fs.lookup f) (mA f)
  | .rng lo hi => ∃ t u v, h.get? a = some { cls := .type "range", data := .fields #[.int lo t, .int hi u, .int 1 v] }
  | .frz o u => h.get? a = some o ∧ ObjOk H h a u
  | .tbl ps => h.get? a = some { cls := .none, data := .fields ps }
  | .met f x => h.get? a = some (PySem.W.methodObj (.ref f) (.ref x))
  | .ext φ => φ h ∧ (∃ o, h.get? a = some o) ∧ ∀ h1 h2 : Heap, φ h1 → (∀ o, h1.get? a = some o → h2.get? a = some o) → φ h2
def HOk (H : Hp) (h : Heap) : Prop := ∀ a o, H a = some o → ObjOk P w H h a o
end

section
variable {P : Program} {w : World} {H H' : Hp} {h h' : Heap} {a : Addr} {o : HO}
theorem ObjOk.lt (x : ObjOk P w H h a o) : a < h.objs.size := by
  cases o with
  | lst xs => obtain ⟨_, _, _, _, e⟩ := x; exact Heap.lt_size e
  | tup xs => obtain ⟨_, _, _, p⟩ := x; exact p.lt
  | dK kvs => obtain ⟨_, _, _, _, o, _, _, e, _⟩ := x; exact Heap.lt_size e
  | dT kvs => obtain ⟨_, _, _, _, o, _, _, e, _⟩ := x; exact Heap.lt_size e
  | set S n => obtain ⟨o, _, _, _, e, _⟩ := x; exact Heap.lt_size e
  | ins C dx fs => obtain ⟨_, _, _, e, _⟩ := x; exact Heap.lt_size e
  | own y => obtain ⟨_, e⟩ := x; exact Heap.lt_size e
  | xd fs => obtain ⟨_, ⟨_, _, _, e, _⟩, _⟩ := x; exact Heap.lt_size e
  | rng lo hi => obtain ⟨_, _, _, e⟩ := x; exact Heap.lt_size e
  | frz ob u => obtain ⟨e, _⟩ := x; exact Heap.lt_size e
  | tbl ps => exact Heap.lt_size (show h.get? a = some _ from x)
  | met f y => exact Heap.lt_size (show h.get? a = some _ from x)
  | ext φ => obtain ⟨_, ⟨_, e⟩, _⟩ := x; exact Heap.lt_size e
theorem Paired.mapP {α β : Type} {F G : α → β → Prop} : ∀ {l₁ : List α} {l₂ : List β}, Paired F l₁ l₂ → (∀ a b, F a b → G a b) → Paired G l₁ l₂
  | _, _, .nil, _ => .nil
  | _, _, .cons r t, f => .cons (f _ _ r) (Paired.mapP t f)
theorem ObjOk.stay (x : ObjOk P w H h a o) (k : ∀ b u, (b = a ∨ H b = some (.own a)) → h.get? b = some u → h'.get? b = some u)
    (ho : ∀ b, H b = some (.own a) → H' b = some (.own a)) (ht : ∀ b xs, H b = some (.tup xs) → H' b = some (.tup xs)) : ObjOk P w H' h' a o := by
  induction o with
  | lst xs => obtain ⟨z, its, n, r, e⟩ := x; exact ⟨z, its, n, r, k _ _ (.inl rfl) e⟩
  | tup xs => obtain ⟨z, its, r, ob, e, c⟩ := x; exact ⟨z, its, r, ob, k _ _ (.inl rfl) e, c⟩
  | dK kvs => obtain ⟨z, y, vs, r, ob, es, ep, e, c⟩ := x; exact ⟨z, y, vs, r, ob, es, ep, k _ _ (.inl rfl) e, c⟩
  | dT kvs =>
    obtain ⟨z, y, xs, r, ob, es, ep, e, c⟩ := x
    exact ⟨z, y, xs, Paired.mapP r fun p q z => ⟨z.1, ht _ _ z.2.1, z.2.2⟩, ob, es, ep, k _ _ (.inl rfl) e, c⟩
  | set S n => obtain ⟨ob, es, ep, t, e, c⟩ := x; exact ⟨ob, es, ep, t, k _ _ (.inl rfl) e, c⟩
  | ins C dx fs =>
    obtain ⟨d, z, ne, e, mA, ⟨od, es, ep, e2, c⟩, r⟩ := x
    exact ⟨ho _ d, z, ne, k _ _ (.inl rfl) e, mA, ⟨od, es, ep, k _ _ (.inr d) e2, c⟩, r⟩
  | own y => obtain ⟨ob, e⟩ := x; exact ⟨ob, k _ _ (.inl rfl) e⟩
  | xd fs => obtain ⟨mA, ⟨od, es, ep, e, c⟩, r⟩ := x; exact ⟨mA, ⟨od, es, ep, k _ _ (.inl rfl) e, c⟩, r⟩
  | rng lo hi => obtain ⟨t, u, v, e⟩ := x; exact ⟨t, u, v, k _ _ (.inl rfl) e⟩
  | frz ob u ih => obtain ⟨e, q⟩ := x; exact ⟨k _ _ (.inl rfl) e, ih q⟩
  | tbl ps =>
    have e : h.get? a = some { cls := .none, data := .fields ps } := x
    show h'.get? a = some { cls := .none, data := .fields ps }
    exact k a _ (.inl rfl) e
  | met f y =>
    have e : h.get? a = some (PySem.W.methodObj (.ref f) (.ref y)) := x
    show h'.get? a = some (PySem.W.methodObj (.ref f) (.ref y))
    exact k a _ (.inl rfl) e
  | ext φ => obtain ⟨p, ⟨o, e⟩, st⟩ := x; exact ⟨st _ _ p fun o q => k _ _ (.inl rfl) q, ⟨o, k _ _ (.inl rfl) e⟩, st⟩
theorem HOk.lt (x : HOk P w H h) (e : H a = some o) : a < h.objs.size := (x a o e).lt
theorem HOk.fresh (x : HOk P w H h) (e : h.objs.size ≤ a) : H a = none := by
  cases q : H a with
  | none => rfl
  | some u => exact absurd (Nat.lt_of_lt_of_le (x.lt q) e) (Nat.lt_irrefl _)
theorem HOk.kept (x : HOk P w H h) (k : ∀ b u, h.get? b = some u → h'.get? b = some u) : HOk P w H h' := fun a o e =>
  (x a o e).stay (fun b u _ q => k b u q) (fun _ q => q) fun _ _ q => q
theorem HOk.laid (x : HOk P w H h) (k : ∀ b u, h.get? b = some u → h'.get? b = some u) (hp : h.objs.size ≤ a) (new : ObjOk P w (upd H a o) h' a o) : HOk P w (upd H a o) h' := fun b u e => by
  have hn := x.fresh hp
  by_cases hb : b = a
  · subst hb; rw [upd_same] at e; cases e; exact new
  · rw [upd_ne hb] at e
    exact (x b u e).stay (fun c v _ q => k c v q) (fun c q => by rw [upd_ne (ne_of_none q hn)]; exact q) fun c xs q => by rw [upd_ne (ne_of_none q hn)]; exact q
end

def Rd (H : Hp) (a : Addr) (u : HO) : Prop := H a = some u ∨ ∃ o, H a = some (.frz o u)
theorem Rd.ok {P : Program} {w : World} {H : Hp} {h : Heap} {a : Addr} {u : HO} (r : Rd H a u) (x : HOk P w H h) : ObjOk P w H h a u := by
  rcases r with r | ⟨o, r⟩
  · exact x a u r
  · obtain ⟨_, q⟩ := x a _ r
    exact q
def Mut : Option HO → Prop
  | some (.lst _) => True
  | some (.dK _) => True
  | some (.dT _) => True
  | some (.set _ _) => True
  | some (.ins _ _ _) => True
  | some (.ext _) => True
  | _ => False
section
variable {P : Program} {w : World} {H : Hp} {h h' : Heap} {x e : Addr} {o' : HO}
theorem HOk.write (ok : HOk P w H h) (mu : Mut (H x)) (he : e = x ∨ H e = some (.own x)) (k : ∀ b u, b ≠ e → h.get? b = some u → h'.get? b = some u) (heo : ∃ u, h'.get? e = some u)
    (new : ObjOk P w (upd H x o') h' x o') : HOk P w (upd H x o') h' := fun b u q => by
  have nown : ∀ c y, H c = some (.own y) → c ≠ x := fun c y r z => by subst z; rw [r] at mu; exact mu
  have ntup : ∀ c xs, H c = some (.tup xs) → c ≠ x := fun c xs r z => by subst z; rw [r] at mu; exact mu
  by_cases hb : b = x
  · subst hb; rw [upd_same] at q; cases q; exact new
  · rw [upd_ne hb] at q
    by_cases hbe : b = e
    · have q' : H b = some (.own x) := by
        rcases he with z | z
        · exact absurd (hbe.trans z) hb
        · rw [hbe]; exact z
      rw [q] at q'; cases q'
      obtain ⟨v, hv⟩ := heo
      exact ⟨v, by rw [hbe]; exact hv⟩
    · refine (ok b u q).stay (fun c v hc r => k c v ?_ r) (fun c r => by rw [upd_ne (nown c b r)]; exact r) fun c xs r => by rw [upd_ne (ntup c xs r)]; exact r
      rcases hc with rfl | hc
      · exact hbe
      · rintro rfl
        rcases he with z | z
        · exact nown c b hc z
        · rw [hc] at z; cases z; exact hb rfl
end

structure Un (fs ex : List Addr) (H H' : Hp) (h h' : Heap) : Prop where
  keep : ∀ b o, h.get? b = some o → H b = none → b ∉ fs → b ∉ ex → h'.get? b = some o
  slot : ∀ b o, h.get? b = some o → H b = none → b ∈ fs → b ∉ ex → ∃ sl, h'.get? b = some { o with slots := sl }
  free : ∀ b o, h.get? b = some o → H b = none → b ∉ ex → H' b = none
  there : ∀ b o, h.get? b = some o → b ∉ ex → ∃ o', h'.get? b = some o'
  tups : ∀ b xs, H b = some (.tup xs) → H' b = some (.tup xs)
  frzs : ∀ b o u, H b = some (.frz o u) → H' b = some (.frz o u)
  tbls : ∀ b ps, H b = some (.tbl ps) → ∃ more, H' b = some (.tbl (ps ++ more))
section
variable {fs fs' ex ex' : List Addr} {H H1 H2 : Hp} {h h1 h2 h' : Heap} {a x e : Addr} {o : HO}
theorem Un.any (u : Un fs ex H H1 h h1) {b : Addr} {ob : Obj} (q : h.get? b = some ob) (n : H b = none) (hx : b ∉ ex) : ∃ sl, h1.get? b = some { ob with slots := sl } := by
  by_cases hb : b ∈ fs
  · exact u.slot b ob q n hb hx
  · exact ⟨ob.slots, u.keep b ob q n hb hx⟩
theorem Un.kept (k : ∀ b u, h.get? b = some u → h'.get? b = some u) : Un fs ex H H h h' :=
  ⟨fun b ob q _ _ _ => k b ob q, fun b ob q _ _ _ => ⟨ob.slots, k b ob q⟩, fun _ _ _ n _ => n, fun b ob q _ => ⟨ob, k b ob q⟩, fun _ _ q => q, fun _ _ _ q => q, fun _ ps q => ⟨#[], by rw [q]; simp⟩⟩
theorem Un.refl : Un fs ex H H h h := Un.kept fun _ _ q => q
theorem Un.laid (k : ∀ b u, h.get? b = some u → h'.get? b = some u) (hp : h.objs.size ≤ a) (hn : H a = none) : Un fs ex H (upd H a o) h h' where
  keep := fun b u q _ _ _ => k b u q
  slot := fun b u q _ _ _ => ⟨u.slots, k b u q⟩
  free := fun b u q n _ => by rw [upd_ne (Nat.ne_of_lt (Nat.lt_of_lt_of_le (Heap.lt_size q) hp))]; exact n
  there := fun b u q _ => ⟨u, k b u q⟩
  tups := fun b xs q => by rw [upd_ne (ne_of_none q hn)]; exact q
  frzs := fun b u xs q => by rw [upd_ne (ne_of_none q hn)]; exact q
  tbls := fun b ps q => ⟨#[], by rw [upd_ne (ne_of_none q hn), q]; simp⟩
theorem Un.write (mu : Mut (H x)) (he : e = x ∨ H e = some (.own x)) (k : ∀ b u, b ≠ e → h.get? b = some u → h'.get? b = some u) (heo : ∃ u, h'.get? e = some u) : Un fs ex H (upd H x o) h h' := by
  have hx : ∀ b, H b = none → b ≠ x := fun b n z => by subst z; rw [n] at mu; exact mu
  have hb : ∀ b, H b = none → b ≠ e := fun b n z => by
    subst z
    rcases he with r | r
    · exact hx b n r
    · rw [n] at r; cases r
  have hm : ∀ b u, H b = some u → ¬ Mut (some u) → b ≠ x := fun b u q nm z => by subst z; rw [q] at mu; exact nm mu
  refine ⟨fun b u q n _ _ => k b u (hb b n) q, fun b u q n _ _ => ⟨u.slots, k b u (hb b n) q⟩, fun b u q n _ => by rw [upd_ne (hx b n)]; exact n, fun b u q _ => ?_,
    fun b xs q => by rw [upd_ne (hm b _ q fun z => z)]; exact q, fun b u xs q => by rw [upd_ne (hm b _ q fun z => z)]; exact q, fun b ps q => ⟨#[], by rw [upd_ne (hm b _ q fun z => z), q]; simp⟩⟩
  by_cases hbe : b = e
  · subst hbe; exact heo
  · exact ⟨u, k b u hbe q⟩
end

def trk (h : Heap) (H : Hp) : List Addr := (List.range h.objs.size).filter fun a => (H a).isSome
def hidT (h : Heap) (H : Hp) : Heap := PySem.W.hideAll h (trk h H)
theorem hidT_size (h : Heap) (H : Hp) : (hidT h H).objs.size = h.objs.size := PySem.W.hideAll_size _ _
theorem hidT_get {h : Heap} {H : Hp} {b : Addr} {o : Obj} (e : h.get? b = some o) (n : H b = none) : (hidT h H).get? b = some o :=
  PySem.W.hideAll_get _ e fun hm => by
    have q : (H b).isSome = true := (List.mem_filter.mp hm).2
    rw [n] at q; simp at q
theorem of_hidT {h : Heap} {H : Hp} {b : Addr} {o : Obj} (e : (hidT h H).get? b = some o) : h.get? b = some o ∧ H b = none := by
  have e' : h.get? b = some o := PySem.W.of_hideAll (trk h H) e
  refine ⟨e', ?_⟩
  cases q : H b with
  | none => rfl
  | some x =>
    have hm : b ∈ trk h H := List.mem_filter.mpr ⟨List.mem_range.mpr (Heap.lt_size e'), by simp [q]⟩
    have z : (hidT h H).get? b = none := PySem.W.hideAll_none (trk h H) hm
    rw [z] at e; cases e

def allNews (g h : Heap) (L : Addr) : List (Addr × Obj) := (List.range h.objs.size).filterMap fun a => if a = L ∨ (g.get? a).isSome = true then none else (h.get? a).map fun o => (a, o)
def rest (g h : Heap) (L d : Addr) : List (Addr × Obj) := (allNews g h L).filter fun p => decide (p.1 ≠ d)
end L2

namespace L2
open PySem PySem.Spec PyProof.Rows

structure Mod (K : PySem.W.Frag) (mg : Str → Option Value) (base : Heap) : Prop where
  kin : K.In base
  glob : base.Ns mainGlobals mg
  blt : ∃ mb, base.Ns builtinsNs mb ∧ ∀ x : Str, x ≠ "__name__" → mb x = bootBuiltins x
  nolimit : base.NoLimit

structure Cx where
  prog : Program
  w : World
  K : PySem.W.Frag
  mg : Str → Option Value
  base : Heap
  A : Around
  N : List Str
  s₀ : Shared
  H₀ : Hp
  env : Env
  outer : List Env
  stack : List Env
  ex : List Addr
  fn : Str → Bool
  calm : Bool
  pn : List (Addr × Obj)
  xe : Value → Shared → Prop
def frs (l : List Env) : List Addr := l.filterMap (·.frame)
abbrev Cx.fs (X : Cx) : List Addr := frs X.outer

def Vis (sc : Scope) (x : Str) : Prop := sc.names.lookup x = some .local ∨ sc.names.lookup x = some .cell ∨ sc.names.lookup x = some .free
def Loc (sc : Scope) (x : Str) : Prop := sc.names.lookup x = some .local ∨ sc.names.lookup x = some .cell
def Look (env : Env) (h : Heap) (m : Str → Option Value) (x : Str) (u : Value) : Prop :=
  (env.kindOf x = some .local ∧ m x = some u) ∨ ((env.kindOf x = some .cell ∨ env.kindOf x = some .free) ∧ ∃ c, env.cells.lookup x = some c ∧ h.IsCell c (some u))

structure Cx.Ok (X : Cx) : Prop where
  mod : Mod X.K X.mg X.base
  kind : X.env.scope.kind = .function
  glob : X.env.globals = mainGlobals
  blt : X.env.builtins = builtinsNs
  above : X.s₀.heap.objs.size ≤ X.env.locals
  inj : ∀ x y c, X.env.cells.lookup x = some c → X.env.cells.lookup y = some c → x = y
  has : ∀ x, (X.env.kindOf x = some .cell ∨ X.env.kindOf x = some .free) → ∃ c, X.env.cells.lookup x = some c
  cab : ∀ x c, X.fn x = true → X.env.cells.lookup x = some c → X.s₀.heap.objs.size ≤ c
  hd : X.calm = true → X.A.handled = none
  frames : X.A.frames = some X.stack
  stk : X.stack = X.outer ∨ (X.stack = X.env :: X.outer ∧ X.env.frame = some X.env.locals)
  exf : ∀ b ∈ X.ex, b ≠ X.env.locals ∧ ∀ x c, X.env.cells.lookup x = some c → c ≠ b
  bs : ∀ b o, X.base.get? b = some o → X.s₀.heap.get? b = some o ∧ X.H₀ b = none
  bsz : X.base.objs.size ≤ X.s₀.heap.objs.size
  noex : ∀ b o, X.base.get? b = some o → b ∉ X.ex
  exfs : ∀ b ∈ X.ex, b ∉ X.fs
  funs : X.s₀.heap.FunFrames X.base X.outer
  frf : ∀ b ∈ X.fs, X.H₀ b = none

structure Inv (X : Cx) (pins : List (Addr × Obj)) (σ : List (Option V)) (H : Hp) (s : Shared) : Prop where
  ok : X.Ok
  os : s.os = X.s₀.os
  bare : AllBare s.gens
  base : Un X.fs X.ex X.H₀ H X.s₀.heap s.heap
  loc : ∃ m, s.heap.Ns X.env.locals m ∧ ∀ (i : Nat) (x : Str) (v : V), X.N[i]? = some x → σ[i]? = some (some v) → Vis X.env.scope x → ∃ u, RelV v u ∧ Look X.env s.heap m x u
  cell : ∀ x c, X.env.cells.lookup x = some c → ∃ v, s.heap.IsCell c v
  free : H X.env.locals = none
  freeC : ∀ x c, X.env.cells.lookup x = some c → H c = none
  pin : ∀ p ∈ X.pn ++ pins, s.heap.get? p.1 = some p.2 ∧ H p.1 = none ∧ p.1 ≠ X.env.locals ∧ p.1 ∉ X.fs ∧ ∀ v, p.2.data ≠ .cell v
  hok : HOk X.prog X.w H s.heap
  len : σ.length = X.N.length

section
variable {X : Cx} {pins : List (Addr × Obj)} {σ : List (Option V)} {H H' : Hp} {s : Shared} {h' : Heap}

theorem Cx.Ok.nofr (ok : X.Ok) {b : Addr} {o : Obj} (e : X.base.get? b = some o) : b ∉ X.fs := fun hb => by
  have := (ok.funs.mem hb).1
  rw [e] at this; cases this
theorem Inv.bs (I : Inv X pins σ H s) : ∀ b o, X.base.get? b = some o → s.heap.get? b = some o ∧ H b = none := fun b o e =>
  ⟨I.base.keep b o (I.ok.bs b o e).1 (I.ok.bs b o e).2 (I.ok.nofr e) (I.ok.noex b o e), I.base.free b o (I.ok.bs b o e).1 (I.ok.bs b o e).2 (I.ok.noex b o e)⟩
theorem Inv.bk (I : Inv X pins σ H s) : ∀ b o, X.base.get? b = some o → s.heap.get? b = some o := fun b o e => (I.bs b o e).1
theorem Inv.mod (I : Inv X pins σ H s) : Mod X.K X.mg X.base := I.ok.mod
theorem Inv.kIn (I : Inv X pins σ H s) : X.K.In s.heap := I.ok.mod.kin.keeps I.bk
theorem Inv.lt (I : Inv X pins σ H s) : X.env.locals < s.heap.objs.size := let ⟨_, hn, _⟩ := I.loc; hn.lt
theorem Inv.sz (I : Inv X pins σ H s) : X.s₀.heap.objs.size ≤ s.heap.objs.size := Nat.le_trans I.ok.above (Nat.le_of_lt I.lt)
theorem Inv.nofs (I : Inv X pins σ H s) {a : Addr} (h : s.heap.objs.size ≤ a) : a ∉ X.fs := fun hb => by
  obtain ⟨_, o, ho, _⟩ := I.ok.funs.mem hb
  exact absurd (Nat.lt_of_lt_of_le (Heap.lt_size ho) (Nat.le_trans I.sz h)) (Nat.lt_irrefl _)
theorem Inv.cne (I : Inv X pins σ H s) : ∀ x c, X.env.cells.lookup x = some c → c ≠ X.env.locals := fun x c e z => by
  obtain ⟨v, o, ho, hd⟩ := I.cell x c e
  obtain ⟨m, ⟨o', es, ep, ho', hd', _⟩, _⟩ := I.loc
  rw [z, ho'] at ho; cases ho; rw [hd'] at hd; cases hd
theorem Inv.funs (I : Inv X pins σ H s) : s.heap.FunFrames X.base X.outer := by
  have all : ∀ (l : List Env), (∀ b ∈ frs l, b ∈ X.fs) → X.s₀.heap.FunFrames X.base l → s.heap.FunFrames X.base l := by
    intro l
    induction l with
    | nil => intro _ _; trivial
    | cons env r ih =>
      intro hs hl
      obtain ⟨hk, ⟨L, o, hf, hn, ho, hd⟩, hr⟩ := hl
      have hL : L ∈ X.fs := hs L (by unfold frs; rw [List.filterMap_cons, hf]; exact List.mem_cons_self)
      obtain ⟨sl, e⟩ := I.base.slot L o ho (I.ok.frf L hL) hL fun z => I.ok.exfs L z hL
      exact ⟨hk, ⟨L, _, hf, hn, e, hd⟩, ih (fun b hb => hs b (by unfold frs; rw [List.filterMap_cons, hf]; exact List.mem_cons_of_mem _ hb)) hr⟩
  exact all X.outer (fun _ hb => hb) I.ok.funs

theorem Inv.stack (I : Inv X pins σ H s) : s.heap.FunFrames X.base X.stack := by
  rcases I.ok.stk with e | ⟨e, hf⟩
  · rw [e]; exact I.funs
  · rw [e]
    obtain ⟨m, hn, _⟩ := I.loc
    refine .cons (by rw [I.ok.kind]; decide) hf hn ?_ I.funs
    exact Heap.get?_none_of_le (Nat.le_trans I.ok.bsz I.ok.above)
theorem Inv.stkSub (I : Inv X pins σ H s) : ∀ b ∈ frs X.stack, b ∈ X.env.locals :: X.fs := fun b hb => by
  rcases I.ok.stk with e | ⟨e, hf⟩
  · rw [e] at hb; exact List.mem_cons_of_mem _ hb
  · rw [e] at hb
    unfold frs at hb
    rw [List.filterMap_cons, hf] at hb
    exact hb
theorem Inv.stkFree (I : Inv X pins σ H s) : ∀ b ∈ frs X.stack, H b = none := fun b hb => by
  rcases List.mem_cons.mp (I.stkSub b hb) with e | hb
  · rw [e]; exact I.free
  · obtain ⟨_, o, ho, _⟩ := I.ok.funs.mem hb
    exact I.base.free b o ho (I.ok.frf b hb) fun z => I.ok.exfs b z hb

theorem Inv.step {g' : Array GenState} {t' : Nat} {d' : Drawn} {ch : List Addr} (I : Inv X pins σ H s)
    (hch : ∀ b ∈ ch, (b ∈ X.ex ∨ X.s₀.heap.objs.size ≤ b) ∧ b ≠ X.env.locals ∧ (∀ x c, X.env.cells.lookup x = some c → c ≠ b) ∧ ∀ p ∈ X.pn ++ pins, p.1 ≠ b)
    (keep : ∀ b o, b ≠ X.env.locals → b ∉ X.fs → b ∉ ch → s.heap.get? b = some o → H b = none → h'.get? b = some o)
    (slot : ∀ b o, b ≠ X.env.locals → b ∈ X.fs → b ∉ ch → s.heap.get? b = some o → H b = none → ∃ sl, h'.get? b = some { o with slots := sl }) (free : ∀ b o, b ∉ ch → s.heap.get? b = some o → H b = none → H' b = none)
    (there : ∀ b o, b ∉ ch → s.heap.get? b = some o → ∃ o', h'.get? b = some o')
    (tups : ∀ b xs, H b = some (.tup xs) → H' b = some (.tup xs)) (frzs : ∀ b o u, H b = some (.frz o u) → H' b = some (.frz o u)) (tbls : ∀ b ps, H b = some (.tbl ps) → ∃ more, H' b = some (.tbl (ps ++ more)))
    (ns : ∀ m, s.heap.Ns X.env.locals m → h'.Ns X.env.locals m) (hok : HOk X.prog X.w H' h') (hg : AllBare g') :
    Inv X pins σ H' { s with heap := h', gens := g', drawn := d', toks := t' } := by
  have neL : ∀ b o, X.s₀.heap.get? b = some o → b ≠ X.env.locals := fun b o e => Nat.ne_of_lt (Nat.lt_of_lt_of_le (Heap.lt_size e) I.ok.above)
  have neC : ∀ b o, X.s₀.heap.get? b = some o → b ∉ X.ex → b ∉ ch := fun b o e hx hb => by
    rcases (hch b hb).1 with z | z
    · exact hx z
    · exact absurd (Nat.lt_of_lt_of_le (Heap.lt_size e) z) (Nat.lt_irrefl _)
  have cellK : ∀ x c, X.env.cells.lookup x = some c → ∀ v, s.heap.IsCell c v → h'.IsCell c v := fun x c e v ⟨o, ho, hd⟩ => by
    have nch : c ∉ ch := fun z => (hch c z).2.2.1 x c e rfl
    by_cases hc : c ∈ X.fs
    · obtain ⟨sl, q⟩ := slot c o (I.cne x c e) hc nch ho (I.freeC x c e)
      exact ⟨_, q, hd⟩
    · exact ⟨o, keep c o (I.cne x c e) hc nch ho (I.freeC x c e), hd⟩
  refine ⟨I.ok, I.os, hg, ⟨fun b o e n hb hx => ?_, fun b o e n hb hx => ?_, fun b o e n hx => ?_, fun b o e hx => ?_, fun b xs e => tups b xs (I.base.tups b xs e), fun b o xs e => frzs b o xs (I.base.frzs b o xs e), fun b ps e => ?_⟩, ?_, fun x c e => ?_, ?_, fun x c e => ?_, fun p hp => ?_, hok, I.len⟩
  · exact keep b o (neL b o e) hb (neC b o e hx) (I.base.keep b o e n hb hx) (I.base.free b o e n hx)
  · obtain ⟨sl, e1⟩ := I.base.slot b o e n hb hx
    obtain ⟨sl', e2⟩ := slot b _ (neL b o e) hb (neC b o e hx) e1 (I.base.free b o e n hx)
    exact ⟨sl', e2⟩
  · obtain ⟨o', e1⟩ := I.base.there b o e hx
    exact free b o' (neC b o e hx) e1 (I.base.free b o e n hx)
  · obtain ⟨o', e1⟩ := I.base.there b o e hx
    exact there b o' (neC b o e hx) e1
  · obtain ⟨m1, e1⟩ := I.base.tbls b ps e
    obtain ⟨m2, e2⟩ := tbls b _ e1
    exact ⟨m1 ++ m2, by rw [e2, Array.append_assoc]⟩
  · obtain ⟨m, hn, hl⟩ := I.loc
    refine ⟨m, ns m hn, fun i x v e1 e2 e3 => ?_⟩
    obtain ⟨u, r, l⟩ := hl i x v e1 e2 e3
    refine ⟨u, r, ?_⟩
    rcases l with l | ⟨k, c, e, z⟩
    · exact .inl l
    · exact .inr ⟨k, c, e, cellK x c e _ z⟩
  · obtain ⟨v, z⟩ := I.cell x c e
    exact ⟨v, cellK x c e v z⟩
  · obtain ⟨m, ⟨o, _, _, ho, _⟩, _⟩ := I.loc
    exact free _ o (fun z => (hch _ z).2.1 rfl) ho I.free
  · obtain ⟨v, o, ho, hd⟩ := I.cell x c e
    exact free c o (fun z => (hch c z).2.2.1 x c e rfl) ho (I.freeC x c e)
  · obtain ⟨e, n, ne, nf, d⟩ := I.pin p hp
    have nch : p.1 ∉ ch := fun z => (hch p.1 z).2.2.2 p hp rfl
    exact ⟨keep p.1 p.2 ne nf nch e n, free p.1 p.2 nch e n, ne, nf, d⟩
theorem Inv.un {t' : Nat} (I : Inv X pins σ H s) (u : Un X.fs [] H H' s.heap h') (hok : HOk X.prog X.w H' h') : Inv X pins σ H' { s with heap := h', toks := t' } := by
  obtain ⟨m, ⟨o, es, ep, ho, r⟩, _⟩ := id I.loc
  obtain ⟨sl, hL⟩ := u.any ho I.free (by simp)
  exact I.step (g' := s.gens) (d' := s.drawn) (ch := []) (fun _ z => nomatch z) (fun b o _ hb _ e n => u.keep b o e n hb (by simp)) (fun b o _ hb _ e n => u.slot b o e n hb (by simp)) (fun b o _ e n => u.free b o e n (by simp)) (fun b o _ e => u.there b o e (by simp)) u.tups u.frzs u.tbls (fun m' hm => by
    obtain ⟨o', es', ep', ho', r'⟩ := hm
    rw [ho] at ho'; cases ho'
    exact ⟨_, es', ep', hL, r'⟩) hok I.bare
theorem Inv.call {g' : Array GenState} {t' : Nat} {d' : Drawn} {ch : List Addr} (I : Inv X pins σ H s) (u : Un (frs X.stack) ch H H' s.heap h') (hok : HOk X.prog X.w H' h') (hg : AllBare g')
    (hch : ∀ b ∈ ch, (b ∈ X.ex ∨ X.s₀.heap.objs.size ≤ b) ∧ b ≠ X.env.locals ∧ (∀ x c, X.env.cells.lookup x = some c → c ≠ b) ∧ ∀ p ∈ X.pn ++ pins, p.1 ≠ b) :
    Inv X pins σ H' { s with heap := h', gens := g', drawn := d', toks := t' } := by
  obtain ⟨m, ⟨o, es, ep, ho, r⟩, _⟩ := id I.loc
  obtain ⟨sl, hL⟩ := u.any ho I.free fun z => (hch _ z).2.1 rfl
  exact I.step (ch := ch) hch (fun b o hL hb hc e n => u.keep b o e n (fun z => (List.mem_cons.mp (I.stkSub b z)).elim hL hb) hc) (fun b o _ _ hc e n => u.any e n hc) (fun b o hc e n => u.free b o e n hc) (fun b o hc e => u.there b o e hc) u.tups u.frzs u.tbls (fun m' hm => by
    obtain ⟨o', es', ep', ho', r'⟩ := hm
    rw [ho] at ho'; cases ho'
    exact ⟨_, es', ep', hL, r'⟩) hok hg
theorem Inv.turned {t' : Nat} {it : Addr} (I : Inv X pins σ H s) (k : ∀ b o, b ≠ it → s.heap.get? b = some o → h'.get? b = some o) (hn : H it = none) (hL : it ≠ X.env.locals)
    (h1 : it ∈ X.ex ∨ X.s₀.heap.objs.size ≤ it) (h2 : ∀ x c, X.env.cells.lookup x = some c → c ≠ it) (h3 : ∀ p ∈ X.pn ++ pins, p.1 ≠ it) : Inv X pins σ H { s with heap := h', toks := t' } := by
  have nit : ∀ b u, H b = some u → b ≠ it := fun b u e z => by rw [z, hn] at e; cases e
  refine I.step (g' := s.gens) (d' := s.drawn) (ch := [it]) (fun b hb => ?_) (fun b o _ _ hc e _ => k b o (fun z => hc (by simp [z])) e) (fun b o _ _ hc e _ => ⟨o.slots, k b o (fun z => hc (by simp [z])) e⟩) (fun _ _ _ _ n => n)
    (fun b o hc e => ⟨o, k b o (fun z => hc (by simp [z])) e⟩) (fun _ _ e => e) (fun _ _ _ e => e) (fun b ps e => ⟨#[], by rw [e]; simp⟩) (fun m hm => ?_) (fun b u e => ?_) I.bare
  · have e : b = it := by simpa using hb
    subst e
    exact ⟨h1, hL, h2, h3⟩
  · obtain ⟨o, es, ep, ho, r⟩ := hm
    exact ⟨o, es, ep, k _ o (Ne.symm hL) ho, r⟩
  · refine (I.hok b u e).stay (fun c v hc q => k c v ?_ q) (fun _ q => q) fun _ _ q => q
    rcases hc with z | z
    · rw [z]; exact nit b u e
    · exact nit c _ z
theorem Inv.tok (I : Inv X pins σ H s) (t : Nat) : Inv X pins σ H { s with toks := t } := I.un (h' := s.heap) (t' := t) Un.refl I.hok
theorem Inv.kept {t' : Nat} (I : Inv X pins σ H s) (k : ∀ b u, s.heap.get? b = some u → h'.get? b = some u) : Inv X pins σ H { s with heap := h', toks := t' } := I.un (Un.kept k) (I.hok.kept k)
theorem Inv.laid {a : Addr} {o : HO} {t' : Nat} (I : Inv X pins σ H s) (k : ∀ b u, s.heap.get? b = some u → h'.get? b = some u) (hp : s.heap.objs.size ≤ a) (new : ObjOk X.prog X.w (upd H a o) h' a o) :
    Inv X pins σ (upd H a o) { s with heap := h', toks := t' } := I.un (Un.laid k hp (I.hok.fresh hp)) (I.hok.laid k hp new)
theorem Inv.write {x e : Addr} {o : HO} {t' : Nat} (I : Inv X pins σ H s) (mu : Mut (H x)) (he : e = x ∨ H e = some (.own x)) (k : ∀ b u, b ≠ e → s.heap.get? b = some u → h'.get? b = some u) (heo : ∃ u, h'.get? e = some u)
    (new : ObjOk X.prog X.w (upd H x o) h' x o) : Inv X pins σ (upd H x o) { s with heap := h', toks := t' } := I.un (Un.write mu he k heo) (I.hok.write mu he k heo new)
theorem Inv.pins_of {pins' : List (Addr × Obj)} (I : Inv X pins σ H s) (h : ∀ p ∈ pins', s.heap.get? p.1 = some p.2 ∧ H p.1 = none ∧ p.1 ≠ X.env.locals ∧ p.1 ∉ X.fs ∧ ∀ v, p.2.data ≠ .cell v) : Inv X pins' σ H s :=
  ⟨I.ok, I.os, I.bare, I.base, I.loc, I.cell, I.free, I.freeC, fun p hp => (List.mem_append.mp hp).elim (fun z => I.pin p (List.mem_append_left _ z)) (h p), I.hok, I.len⟩

theorem nodup_ix {N : List Str} (hN : N.Nodup) {i j : Nat} {x : Str} (a : N[i]? = some x) (b : N[j]? = some x) : i = j := by
  obtain ⟨h1, e1⟩ := List.getElem?_eq_some_iff.mp a
  obtain ⟨h2, e2⟩ := List.getElem?_eq_some_iff.mp b
  exact (List.getElem_inj hN).mp (e1.trans e2.symm)

theorem store_ok2 {M : Model} {A : Around} {E : Value → Shared → Prop} {i : Nat} {x : Str} {v : V} {u : Value} {Q : Unit → Shared → Prop} (I : Inv X pins σ H s) (hN : X.N.Nodup) (hi : X.N[i]? = some x) (hx : Loc X.env.scope x) (r : RelV v u)
    (h : ∀ s', Inv X pins (σ.set i (some v)) H s' → (∃ a, Heap.SameBut a s.heap s'.heap ∧ (a = X.env.locals ∨ X.env.cells.lookup x = some a)) → Q () s') (hf : X.fn x = true ∨ X.env.scope.names.lookup x = some .local := by first | exact .inl rfl | exact .inr rfl | assumption) : wpAny M A (storeName X.env x u) Q E s := by
  obtain ⟨m, hn, hl⟩ := id I.loc
  have hcls : (X.env.scope.kind == .class || (X.env.scope.kind == .module && X.env.locals != X.env.globals)) = false := by rw [I.ok.kind]; rfl
  have hiσ : i < σ.length := by rw [I.len]; exact (List.getElem?_eq_some_iff.mp hi).1
  have cne := I.cne
  have tracked : ∀ {a : Addr} {h' : Heap}, (∃ o, s.heap.get? a = some o ∧ H a = none) → Heap.SameBut a s.heap h' → HOk X.prog X.w H h' := fun {a h'} ha hs b ob e => by
    obtain ⟨_, _, hfree⟩ := ha
    refine (I.hok b ob e).stay (fun c w' hc q => (hs.2 c ?_).trans q) (fun _ q => q) fun _ _ q => q
    rintro rfl
    rcases hc with rfl | hc
    · rw [hfree] at e; cases e
    · rw [hfree] at hc; cases hc
  rcases hx with hk | hk
  · refine wpAny_storeName_local hk hn (fun h' hn' hs => ?_) hcls
    obtain ⟨oL, _, _, hoL, _⟩ := id hn
    refine h _ ⟨I.ok, I.os, I.bare, ⟨fun b o e n hb hx => ?_, fun b o e n hb hx => ?_, I.base.free, fun b o e hx => ?_, I.base.tups, I.base.frzs, I.base.tbls⟩, ⟨_, hn', fun j y v' e1 e2 e3 => ?_⟩, fun y c e => ?_, I.free, I.freeC, fun p hp => ?_, tracked ⟨oL, hoL, I.free⟩ hs, by simpa using I.len⟩ ⟨_, hs, .inl rfl⟩
    · exact (hs.2 b (Nat.ne_of_lt (Nat.lt_of_lt_of_le (Heap.lt_size e) I.ok.above))).trans (I.base.keep b o e n hb hx)
    · obtain ⟨sl, e1⟩ := I.base.slot b o e n hb hx
      exact ⟨sl, (hs.2 b (Nat.ne_of_lt (Nat.lt_of_lt_of_le (Heap.lt_size e) I.ok.above))).trans e1⟩
    · obtain ⟨o', e1⟩ := I.base.there b o e hx
      exact ⟨o', (hs.2 b (Nat.ne_of_lt (Nat.lt_of_lt_of_le (Heap.lt_size e) I.ok.above))).trans e1⟩
    · by_cases hj : j = i
      · subst hj
        rw [hi] at e1; cases e1
        rw [List.getElem?_set_self hiσ] at e2
        cases e2
        exact ⟨u, r, .inl ⟨hk, by simp⟩⟩
      · rw [List.getElem?_set_ne (Ne.symm hj)] at e2
        obtain ⟨u', r', q⟩ := hl j y v' e1 e2 e3
        refine ⟨u', r', ?_⟩
        rcases q with ⟨k, e⟩ | ⟨k, c, e, z⟩
        · refine .inl ⟨k, ?_⟩
          have : y ≠ x := fun e => hj (nodup_ix hN e1 (e ▸ hi))
          simp [this, e]
        · exact .inr ⟨k, c, e, z.sameBut hs (cne y c e)⟩
    · obtain ⟨w', z⟩ := I.cell y c e
      exact ⟨w', z.sameBut hs (cne y c e)⟩
    · obtain ⟨e, n, ne, nf, d⟩ := I.pin p hp
      exact ⟨(hs.2 p.1 ne).trans e, n, ne, nf, d⟩
  · have hfn : X.fn x = true := by
      rcases hf with z | z
      · exact z
      · rw [z] at hk; cases hk
    obtain ⟨c, hc⟩ := I.ok.has x (.inl hk)
    obtain ⟨w', z⟩ := I.cell x c hc
    refine wpAny_storeName_cell I.ok.kind hk hc z (fun h' hc' hs => ?_)
    obtain ⟨oc, hoc, hocd⟩ := id z
    refine h { s with heap := h' } ⟨I.ok, I.os, I.bare, ⟨fun b o e n hb hx => ?_, fun b o e n hb hx => ?_, I.base.free, fun b o e hx => ?_, I.base.tups, I.base.frzs, I.base.tbls⟩, ⟨m, hn.sameBut hs (Ne.symm (cne x c hc)), fun j y v' e1 e2 e3 => ?_⟩, fun y c' e => ?_, I.free, I.freeC, fun p hp => ?_, tracked ⟨oc, hoc, I.freeC x c hc⟩ hs, by simpa using I.len⟩ ⟨c, hs, .inr hc⟩
    · exact (hs.2 b (Nat.ne_of_lt (Nat.lt_of_lt_of_le (Heap.lt_size e) (I.ok.cab x c hfn hc)))).trans (I.base.keep b o e n hb hx)
    · obtain ⟨sl, e1⟩ := I.base.slot b o e n hb hx
      exact ⟨sl, (hs.2 b (Nat.ne_of_lt (Nat.lt_of_lt_of_le (Heap.lt_size e) (I.ok.cab x c hfn hc)))).trans e1⟩
    · obtain ⟨o', e1⟩ := I.base.there b o e hx
      exact ⟨o', (hs.2 b (Nat.ne_of_lt (Nat.lt_of_lt_of_le (Heap.lt_size e) (I.ok.cab x c hfn hc)))).trans e1⟩
    · by_cases hj : j = i
      · subst hj
        rw [hi] at e1; cases e1
        rw [List.getElem?_set_self hiσ] at e2
        cases e2
        exact ⟨u, r, .inr ⟨.inl hk, c, hc, hc'⟩⟩
      · rw [List.getElem?_set_ne (Ne.symm hj)] at e2
        obtain ⟨u', r', q⟩ := hl j y v' e1 e2 e3
        refine ⟨u', r', ?_⟩
        rcases q with q | ⟨k, c', e, z'⟩
        · exact .inl q
        · refine .inr ⟨k, c', e, z'.sameBut hs ?_⟩
          rintro rfl
          exact hj (nodup_ix hN e1 (I.ok.inj _ _ _ e hc ▸ hi))
    · by_cases hcc : c' = c
      · subst hcc; exact ⟨_, hc'⟩
      · obtain ⟨w2, z2⟩ := I.cell y c' e
        exact ⟨w2, z2.sameBut hs hcc⟩
    · obtain ⟨e, n, ne, nf, d⟩ := I.pin p hp
      refine ⟨(hs.2 p.1 ?_).trans e, n, ne, nf, d⟩
      intro q
      rw [q, hoc] at e
      have q' : oc = p.2 := Option.some.inj e
      exact d w' (by rw [← q']; exact hocd)
theorem store_ok {M : Model} {A : Around} {E : Value → Shared → Prop} {i : Nat} {x : Str} {v : V} {u : Value} {Q : Unit → Shared → Prop} (I : Inv X pins σ H s) (hN : X.N.Nodup) (hi : X.N[i]? = some x) (hx : Loc X.env.scope x) (r : RelV v u)
    (h : ∀ s', Inv X pins (σ.set i (some v)) H s' → Q () s') (hf : X.fn x = true ∨ X.env.scope.names.lookup x = some .local := by first | exact .inl rfl | exact .inr rfl | assumption) : wpAny M A (storeName X.env x u) Q E s :=
  store_ok2 I hN hi hx r (fun s' I' _ => h s' I') hf
theorem Inv.call' {s' : Shared} {ch : List Addr} (I : Inv X pins σ H s) (ho : s'.os = s.os) (u : Un (frs X.stack) ch H H' s.heap s'.heap) (hok : HOk X.prog X.w H' s'.heap) (hg : AllBare s'.gens)
    (hch : ∀ b ∈ ch, (b ∈ X.ex ∨ X.s₀.heap.objs.size ≤ b) ∧ b ≠ X.env.locals ∧ (∀ x c, X.env.cells.lookup x = some c → c ≠ b) ∧ ∀ p ∈ X.pn ++ pins, p.1 ≠ b) : Inv X pins σ H' s' := by
  obtain ⟨h', g', d', t', o'⟩ := s'
  have e : o' = s.os := ho
  subst e
  exact I.call (g' := g') (t' := t') (d' := d') u hok hg hch
end

abbrev XK := Value → Option Addr → Hp → Prop
abbrev St := List (Option V)
abbrev VK := V → Hp → Prop
abbrev TE := St → Hp → VK → Prop
abbrev TT := St → Hp → (Bool → Hp → Prop) → Prop
abbrev TA := St → Hp → (List V → Hp → Prop) → Prop
structure Ends where
  nx : St → Hp → Prop
  rt : VK
  bk : St → Hp → Prop := fun _ _ => False
  ct : St → Hp → Prop := fun _ _ => False
abbrev TS := Ends → St → Hp → Prop

def EP (X : Cx) (pins : List (Addr × Obj)) (σ : St) (Q : VK) (u : Value) (s' : Shared) : Prop := ∃ v H', Inv X pins σ H' s' ∧ RelV v u ∧ Q v H'
def TP (X : Cx) (pins : List (Addr × Obj)) (σ : St) (Q : Bool → Hp → Prop) (b : Bool) (s' : Shared) : Prop := ∃ H', Inv X pins σ H' s' ∧ Q b H'
def AP (X : Cx) (pins : List (Addr × Obj)) (σ : St) (Q : List V → Hp → Prop) (us : List Value) (s' : Shared) : Prop := ∃ vs H', Inv X pins σ H' s' ∧ Vals vs us ∧ Q vs H'
def SP (X : Cx) (pins : List (Addr × Obj)) (D : Ends) (f : Flow) (s' : Shared) : Prop :=
  match f with
  | .next => ∃ σ' H', Inv X pins σ' H' s' ∧ D.nx σ' H'
  | .brk => ∃ σ' H', Inv X pins σ' H' s' ∧ D.bk σ' H'
  | .cont => ∃ σ' H', Inv X pins σ' H' s' ∧ D.ct σ' H'
  | .ret u => ∃ v σ' H', Inv X pins σ' H' s' ∧ RelV v u ∧ D.rt v H'

def PE (X : Cx) (e : Expr) (t : TE) : Prop :=
  ∀ (pins : List (Addr × Obj)) (s : Shared) (σ : St) (H : Hp) (Q : VK), Inv X pins σ H s → t σ H Q → wpAny (model X.prog X.w) X.A (eval e X.env) (EP X pins σ Q) X.xe s
def PT (X : Cx) (e : Expr) (t : TT) : Prop :=
  ∀ (pins : List (Addr × Obj)) (s : Shared) (σ : St) (H : Hp) (Q : Bool → Hp → Prop), Inv X pins σ H s → t σ H Q → wpAny (model X.prog X.w) X.A (isTrue e X.env (eval e X.env)) (TP X pins σ Q) X.xe s
def PW (X : Cx) (e : Expr) (t : TT) : Prop :=
  ∀ (whole : Sem Value) (pins : List (Addr × Obj)) (s : Shared) (σ : St) (H : Hp) (Q : Bool → Hp → Prop), Inv X pins σ H s → t σ H Q → wpAny (model X.prog X.w) X.A (isTrue e X.env whole) (TP X pins σ Q) X.xe s
theorem PW.pt {X : Cx} {e : Expr} {t : TT} (h : PW X e t) : PT X e t := h _
def PA (X : Cx) (es : List Expr) (t : TA) : Prop :=
  ∀ (pos : Pos) (pins : List (Addr × Obj)) (s : Shared) (σ : St) (H : Hp) (Q : List V → Hp → Prop), Inv X pins σ H s → t σ H Q → wpAny (model X.prog X.w) X.A (spliced (backTo pos (starEach es X.env))) (AP X pins σ Q) X.xe s
def PS (X : Cx) (st : Stmt) (t : TS) : Prop :=
  ∀ (pins : List (Addr × Obj)) (s : Shared) (σ : St) (H : Hp) (D : Ends), Inv X pins σ H s → t D σ H → wpAny (model X.prog X.w) X.A (exec st X.env) (SP X pins D) X.xe s
def PSs (X : Cx) (st : List Stmt) (t : TS) : Prop :=
  ∀ (pins : List (Addr × Obj)) (s : Shared) (σ : St) (H : Hp) (D : Ends), Inv X pins σ H s → t D σ H → wpAny (model X.prog X.w) X.A (execs st X.env) (SP X pins D) X.xe s
theorem thn {α : Type} {t : Sem α} {Q Q' : α → Shared → Prop} {M : Model} {A : Around} {E : Value → Shared → Prop} {s : Shared} (h : wpAny M A t Q E s) (hQ : ∀ a s, Q a s → Q' a s) : wpAny M A t Q' E s := wpAny_mono h hQ fun _ _ x => x
end L2

namespace L2
open PySem PySem.Spec PyProof.Rows
section
variable {X : Cx}

theorem bin {a b : Expr} {ta tb : TE} (ha : PE X a ta) (hb : PE X b tb) {pins : List (Addr × Obj)} {s : Shared} {σ : St} {H : Hp} {R : V → V → Hp → Prop} (I : Inv X pins σ H s) (h : ta σ H fun x H1 => tb σ H1 fun y H2 => R x y H2)
    {α : Type} {Q : α → Shared → Prop} {f : Value → Value → Sem α}
    (hf : ∀ v u s2 x y H2, Inv X pins σ H2 s2 → RelV x v → RelV y u → R x y H2 → wpAny (model X.prog X.w) X.A (f v u) Q X.xe s2) :
    wpAny (model X.prog X.w) X.A (eval a X.env) (fun v s₁ => wpAny (model X.prog X.w) X.A (eval b X.env) (fun u s₂ => wpAny (model X.prog X.w) X.A (f v u) Q X.xe s₂) X.xe s₁) X.xe s := by
  refine thn (ha pins s σ H _ I h) fun v s1 ⟨x, H1, I1, r1, q1⟩ => ?_
  refine thn (hb pins s1 σ H1 _ I1 q1) fun u s2 ⟨y, H2, I2, r2, q2⟩ => ?_
  exact hf v u s2 x y H2 I2 r1 r2 q2

def tVar (i : Nat) : TE := fun σ H Q => ∃ v, σ[i]? = some (some v) ∧ Q v H
def tC (v : V) : TE := fun _ H Q => Q v H
theorem pe_var {i : Nat} {x : Str} {pos : Pos} (hN : X.N[i]? = some x) (hv : Vis X.env.scope x) (hd : (x == ("__debug__" : Str)) = false := by decide) (hcd : (x == ("__classdict__" : Str)) = false := by decide) : PE X (.Name x pos) (tVar i) := by
  intro pins s σ H Q I h
  obtain ⟨v, e, h⟩ := h
  obtain ⟨m, hn, hl⟩ := I.loc
  obtain ⟨u, r, l⟩ := hl i x v hN e hv
  have fin : EP X pins σ Q u s := ⟨v, H, I, r, h⟩
  rcases l with ⟨hk, hm⟩ | ⟨hk, c, hc, hcell⟩
  · exact wpAny_Name (wpAny_loadName_local I.ok.kind hk hn hm fin) hd
  · rcases hk with hk | hk
    · exact wpAny_Name (wpAny_loadName_cell I.ok.kind hk hc hcell fin) hd
    · exact wpAny_Name (wpAny_loadName_free I.ok.kind hk hc hcell fin hcd) hd
theorem pe_int {i j pos} : PE X (.Constant (.int i) j pos) (tC (.int i)) := fun _ _ _ H _ I h => wpAny_Constant_int ⟨.int i, H, I.tok _, ⟨_, rfl⟩, h⟩
theorem pe_bl {b j pos} : PE X (.Constant (.bool b) j pos) (tC (.bl b)) := fun _ _ _ H _ I h => Constant_bool ⟨.bl b, H, I, rfl, h⟩
theorem pe_str {x j pos} : PE X (.Constant (.str x) j pos) (tC (.str x)) := fun _ _ _ H _ I h => Calls.Constant_str ⟨.str x, H, I.tok _, ⟨_, rfl⟩, h⟩

def Gl (X : Cx) (x : Str) : Prop := X.env.kindOf x = some .globalImplicit
theorem ld_glob {E : Value → Shared → Prop} {pins : List (Addr × Obj)} {s : Shared} {σ : St} {H : Hp} {x : Str} {u : Value} {pos : Pos} {Q : Value → Shared → Prop} (I : Inv X pins σ H s) (hg : Gl X x) (hm : X.mg x = some u) (h : Q u s)
    (hd : (x == ("__debug__" : Str)) = false := by decide) : wpAny (model X.prog X.w) X.A (eval (.Name x pos) X.env) Q E s :=
  Calls.Name_function_global I.ok.kind hg (Calls.loadGlobal_global (by rw [I.ok.glob]; exact I.mod.glob.keeps I.bk) hm h) hd
theorem ld_blt {E : Value → Shared → Prop} {pins : List (Addr × Obj)} {s : Shared} {σ : St} {H : Hp} {x : Str} {u : Value} {pos : Pos} {Q : Value → Shared → Prop} (I : Inv X pins σ H s) (hg : Gl X x) (hm : X.mg x = none) (hv : bootBuiltins x = some u) (h : Q u s)
    (hn : x ≠ "__name__" := by decide) (hd : (x == ("__debug__" : Str)) = false := by decide) : wpAny (model X.prog X.w) X.A (eval (.Name x pos) X.env) Q E s := by
  obtain ⟨mb, h1, h2⟩ := I.mod.blt
  exact Calls.Name_function_global I.ok.kind hg (Calls.loadGlobal_builtin (by rw [I.ok.glob]; exact I.mod.glob.keeps I.bk) hm (by rw [I.ok.blt]; exact h1.keeps I.bk) ((h2 x hn).trans hv) h) hd
theorem pe_glob {x : Str} {v : V} {u : Value} {pos : Pos} (hg : Gl X x) (hm : X.mg x = some u) (r : RelV v u) (hd : (x == ("__debug__" : Str)) = false := by decide) : PE X (.Name x pos) (tC v) :=
  fun _ _ _ H _ I h => ld_glob I hg hm ⟨v, H, I, r, h⟩ hd
theorem pe_bltn {x : Str} {v : V} {u : Value} {pos : Pos} (hg : Gl X x) (hm : X.mg x = none) (hv : bootBuiltins x = some u) (r : RelV v u) (hn : x ≠ "__name__" := by decide) (hd : (x == ("__debug__" : Str)) = false := by decide) : PE X (.Name x pos) (tC v) :=
  fun _ _ _ H _ I h => ld_blt I hg hm hv ⟨v, H, I, r, h⟩ hn hd

variable {a b : Expr} {ta tb : TE} {pos : Pos}

def PC (X : Cx) (op : CmpOp) (a b : Expr) (t : TE) : Prop :=
  ∀ (pins : List (Addr × Obj)) (s : Shared) (σ : St) (H : Hp) (Q : VK), Inv X pins σ H s → t σ H Q →
    wpAny (model X.prog X.w) X.A (eval a X.env) (fun v s₁ => wpAny (model X.prog X.w) X.A (eval b X.env) (fun u s₂ => wpAny (model X.prog X.w) X.A (compareOp op v u) (EP X pins σ Q) X.xe s₂) X.xe s₁) X.xe s
theorem nobehind (b : Expr) {op : CmpOp} (h : op ≠ .In) (h2 : op ≠ .NotIn) : behindInMarks op b = false := by
  have e1 : (op == CmpOp.In) = false := by cases op <;> first | rfl | exact absurd rfl h
  have e2 : (op == CmpOp.NotIn) = false := by cases op <;> first | rfl | exact absurd rfl h2
  cases b <;> simp [behindInMarks, e1, e2]
def tB (t : TE) : TT := fun σ H Q => t σ H fun x H1 => ∃ c, x = .bl c ∧ Q c H1
theorem pt_cmp {op : CmpOp} {t : TE} (h : PC X op a b t) (h1 : behindInMarks op b = false := by first | exact nobehind _ (by decide) (by decide) | rfl) : PT X (.Compare a [op] [b] pos) (tB t) := by
  intro pins s σ H Q I hw
  refine wpAny_isTrue_Compare1 (thn (h pins s σ H _ I hw) fun v s1 h1 => thn h1 fun u s2 h2 => thn h2 fun c s3 ⟨x, H1, I1, r1, q1⟩ => ?_) h1
  obtain ⟨d, rfl, q⟩ := q1
  cases r1
  exact wpAny_truthy_bool ⟨H1, I1, q⟩
theorem pt_val {e : Expr} {t : TE} (h : PE X e t) (he : ∀ whole, isTrue e X.env whole = (do let v ← whole; standAt e.pos; holding [v] (truthy v)) := by intro _; rfl) : PT X e (tB t) := by
  intro pins s σ H Q I hw
  refine isTrue_plain (thn (h pins s σ H _ I hw) fun v s1 ⟨x, H1, I1, r1, q1⟩ => ?_) (he _)
  obtain ⟨d, rfl, q⟩ := q1
  cases r1
  exact wpAny_truthy_bool ⟨H1, I1, q⟩

variable {tA tB' : TT} {rest : List Expr}
def tAnd (t u : TT) : TT := fun σ H Q => t σ H fun c H1 => if c = true then u σ H1 Q else Q false H1
def tOr (t u : TT) : TT := fun σ H Q => t σ H fun c H1 => if c = true then Q true H1 else u σ H1 Q
def tNot (t : TT) : TT := fun σ H Q => t σ H fun c H1 => Q (!c) H1
theorem pw_and1 (ha : PT X a tA) : PW X (.BoolOp .And [a] pos) tA := by
  intro wh pins s σ H Q I h
  refine isTrue_and (thn (ha pins s σ H Q I h) fun c s1 e => ?_)
  cases c with
  | true => exact isTrue_and_nil e
  | false => exact e
theorem pw_or1 (ha : PT X a tA) : PW X (.BoolOp .Or [a] pos) tA := by
  intro wh pins s σ H Q I h
  refine isTrue_or (thn (ha pins s σ H Q I h) fun c s1 e => ?_)
  cases c with
  | false => exact isTrue_or_nil e
  | true => exact e
theorem pw_and (ha : PT X a tA) (hb : PW X (.BoolOp .And (b :: rest) pos) tB') : PW X (.BoolOp .And (a :: b :: rest) pos) (tAnd tA tB') := by
  intro wh pins s σ H Q I h
  refine isTrue_and (thn (ha pins s σ H _ I h) fun c s1 ⟨H1, I1, q1⟩ => ?_)
  cases c with
  | true => exact hb wh pins s1 σ H1 Q I1 q1
  | false => exact ⟨H1, I1, q1⟩
theorem pw_or (ha : PT X a tA) (hb : PW X (.BoolOp .Or (b :: rest) pos) tB') : PW X (.BoolOp .Or (a :: b :: rest) pos) (tOr tA tB') := by
  intro wh pins s σ H Q I h
  refine isTrue_or (thn (ha pins s σ H _ I h) fun c s1 ⟨H1, I1, q1⟩ => ?_)
  cases c with
  | true => exact ⟨H1, I1, q1⟩
  | false => exact hb wh pins s1 σ H1 Q I1 q1
theorem pt_not (ha : PT X a tA) : PT X (.UnaryOp .Not a pos) (tNot tA) := by
  intro pins s σ H Q I h
  exact isTrue_not (ha pins s σ H (fun c H1 => Q (!c) H1) I h)
def tAndV (ta tb : TE) : TE := fun σ H Q => ta σ H fun x H1 => ∃ c, x = .bl c ∧ if c = true then tb σ H1 Q else Q (.bl false) H1
def tNotV (ta : TE) : TE := fun σ H Q => ta σ H fun x H1 => ∃ c, x = .bl c ∧ Q (.bl (!c)) H1
theorem pe_one {op} {t : TE} (h : PE X a t) : PE X (.BoolOp op [a] pos) t := fun pins s σ H Q I hw => BoolOp_one (h pins s σ H Q I hw)
theorem pe_and (ha : PE X a ta) (hb : PE X (.BoolOp .And (b :: rest) pos) tb) : PE X (.BoolOp .And (a :: b :: rest) pos) (tAndV ta tb) := by
  intro pins s σ H Q I h
  refine BoolOp_and (thn (ha pins s σ H _ I h) fun v s1 ⟨x, H1, I1, r1, q1⟩ => ?_)
  obtain ⟨c, rfl, q1⟩ := q1
  cases r1
  refine wpAny_truthy_bool ?_
  cases c with
  | true => exact hb pins s1 σ H1 Q I1 q1
  | false => exact ⟨.bl false, H1, I1, rfl, q1⟩
theorem pe_not (ha : PE X a ta) : PE X (.UnaryOp .Not a pos) (tNotV ta) := by
  intro pins s σ H Q I h
  refine UnaryOp_ (thn (ha pins s σ H _ I h) fun v s1 ⟨x, H1, I1, r1, q1⟩ => ?_)
  obtain ⟨c, rfl, q1⟩ := q1
  cases r1
  exact not_of (wpAny_truthy_bool ⟨.bl (!c), H1, I1, rfl, q1⟩)
end
end L2

namespace L2
open PySem PySem.Spec PyProof.Rows

def SqL (K : PySem.W.Frag) (H : Hp) (a : Addr) (xs : List V) : Prop :=
  Rd H a (.lst xs) ∨
    ∃ (o : Obj) (its : Array Value) (n : Nat), K.lookup a = some o ∧ o.cls = .type "list" ∧ o.dict = none ∧ o.data = .seq its n ∧ its.size ≤ sizeLine ∧ Vals xs its.toList
def SqT (K : PySem.W.Frag) (H : Hp) (a : Addr) (xs : List V) : Prop :=
  Rd H a (.tup xs) ∨
    ∃ (o : Obj) (its : Array Value) (n : Nat), K.lookup a = some o ∧ o.cls = .type "tuple" ∧ o.data = .seq its n ∧ its.size ≤ sizeLine ∧ Vals xs its.toList
def absV : Value → Option V
  | .none => some .non
  | .bool b => some (.bl b)
  | .int i _ => some (.int i)
  | .str x _ => some (.str x)
  | .bytes b _ => some (.byt b)
  | .float b _ => some (.flt b)
  | .ref a => some (.ref a)
  | .type n => some (.ty n)
  | _ => none
theorem RelV.abs {x : V} {u : Value} (r : RelV x u) : absV u = some x := by
  cases x with
  | non => cases r; rfl
  | bl _ => cases r; rfl
  | int _ => obtain ⟨t, rfl⟩ := r; rfl
  | str _ => obtain ⟨t, rfl⟩ := r; rfl
  | byt _ => obtain ⟨t, rfl⟩ := r; rfl
  | flt _ => obtain ⟨t, rfl⟩ := r; rfl
  | ref _ => cases r; rfl
  | ty _ => cases r; rfl
theorem RelV.inj {x y : V} {u : Value} (r : RelV x u) (q : RelV y u) : x = y := Option.some.inj (r.abs.symm.trans q.abs)
theorem Vals.inj : ∀ {xs ys : List V} {us : List Value}, Vals xs us → Vals ys us → xs = ys
  | _, _, _, .nil, .nil => rfl
  | _, _, _, .cons r t, .cons r' t' => by rw [r.inj r', Vals.inj t t']
section
variable {X : Cx} {pins : List (Addr × Obj)} {σ : St} {H : Hp} {s : Shared} {a : Addr} {xs ys : List V}
theorem SqL.of {K : PySem.W.Frag} (h : H a = some (.lst xs)) : SqL K H a xs := .inl (.inl h)
theorem SqT.of {K : PySem.W.Frag} (h : H a = some (.tup xs)) : SqT K H a xs := .inl (.inl h)
theorem Inv.list (I : Inv X pins σ H s) (h : SqL X.K H a xs) : ∃ its : List Value, Vals xs its ∧ PlainL s.heap a its.toArray ∧ xs.length ≤ sizeLine := by
  rcases h with h | ⟨o, its, n, hk, hc, hd, hs, hz, r⟩
  · obtain ⟨z, its, n, r, e⟩ := h.ok I.hok
    exact ⟨its, r, ⟨_, n, e, rfl, rfl, rfl⟩, z⟩
  · refine ⟨its.toList, r, ⟨o, n, I.kIn a o hk, hc, hd, by simpa using hs⟩, ?_⟩
    have e := r.length
    simp only [Array.length_toList] at e
    omega
theorem Inv.tuple (I : Inv X pins σ H s) (h : SqT X.K H a xs) : ∃ its : List Value, Vals xs its ∧ IsTup s.heap a its.toArray ∧ xs.length ≤ sizeLine := by
  rcases h with h | ⟨o, its, n, hk, hc, hs, hz, r⟩
  · obtain ⟨z, its, r, p⟩ := h.ok I.hok
    exact ⟨its, r, p, z⟩
  · refine ⟨its.toList, r, ⟨o, I.kIn a o hk, hc, n, by simpa using hs⟩, ?_⟩
    have e := r.length
    simp only [Array.length_toList] at e
    omega
theorem Inv.list_inj (I : Inv X pins σ H s) (h : SqL X.K H a xs) (h' : SqL X.K H a ys) : xs = ys := by
  obtain ⟨its, r, ⟨o, n, e, _, _, d⟩, _⟩ := I.list h
  obtain ⟨its', r', ⟨o', n', e', _, _, d'⟩, _⟩ := I.list h'
  rw [e] at e'; cases e'
  rw [d] at d'
  injection d' with d1 _
  have : its = its' := by simpa using congrArg Array.toList d1
  subst this
  exact r.inj r'
theorem Inv.tuple_inj (I : Inv X pins σ H s) (h : SqT X.K H a xs) (h' : SqT X.K H a ys) : xs = ys := by
  obtain ⟨its, r, ⟨o, e, _, n, d⟩, _⟩ := I.tuple h
  obtain ⟨its', r', ⟨o', e', _, n', d'⟩, _⟩ := I.tuple h'
  rw [e] at e'; cases e'
  rw [d] at d'
  injection d' with d1 _
  have : its = its' := by simpa using congrArg Array.toList d1
  subst this
  exact r.inj r'
end

abbrev Cx.wish (X : Cx) (E : Value → Shared → Prop) : Cx := { X with xe := E }
abbrev Cx.nox (X : Cx) : Cx := X.wish fun _ _ => False
theorem Cx.Ok.wish {X : Cx} (ok : X.Ok) (E : Value → Shared → Prop) : (X.wish E).Ok :=
  ⟨ok.mod, ok.kind, ok.glob, ok.blt, ok.above, ok.inj, ok.has, ok.cab, ok.hd, ok.frames, ok.stk, ok.exf, ok.bs, ok.bsz, ok.noex, ok.exfs, ok.funs, ok.frf⟩
theorem Cx.Ok.unwish {X : Cx} {E : Value → Shared → Prop} (ok : (X.wish E).Ok) : X.Ok :=
  ⟨ok.mod, ok.kind, ok.glob, ok.blt, ok.above, ok.inj, ok.has, ok.cab, ok.hd, ok.frames, ok.stk, ok.exf, ok.bs, ok.bsz, ok.noex, ok.exfs, ok.funs, ok.frf⟩
section
variable {X : Cx} {pins : List (Addr × Obj)} {σ : St} {H : Hp} {s : Shared} {E : Value → Shared → Prop}
theorem Inv.wish (I : Inv X pins σ H s) (E : Value → Shared → Prop) : Inv (X.wish E) pins σ H s := ⟨I.ok.wish E, I.os, I.bare, I.base, I.loc, I.cell, I.free, I.freeC, I.pin, I.hok, I.len⟩
theorem Inv.unwish (I : Inv (X.wish E) pins σ H s) : Inv X pins σ H s := ⟨I.ok.unwish, I.os, I.bare, I.base, I.loc, I.cell, I.free, I.freeC, I.pin, I.hok, I.len⟩
theorem SP.unwish {D : Ends} {f : Flow} {s' : Shared} (h : SP (X.wish E) pins D f s') : SP X pins D f s' := by
  cases f with
  | next => obtain ⟨σ', H', I, q⟩ := h; exact ⟨σ', H', I.unwish, q⟩
  | brk => obtain ⟨σ', H', I, q⟩ := h; exact ⟨σ', H', I.unwish, q⟩
  | cont => obtain ⟨σ', H', I, q⟩ := h; exact ⟨σ', H', I.unwish, q⟩
  | ret u => obtain ⟨v, σ', H', I, r, q⟩ := h; exact ⟨v, σ', H', I.unwish, r, q⟩
theorem PSs.nox {st : List Stmt} {t : TS} (h : PSs X.nox st t) : PSs X st t := fun pins s σ H D I hw =>
  wpAny_mono (h pins s σ H D (I.wish _) hw) (fun _ _ q => q.unwish) fun _ _ z => False.elim z
end

section
variable {X : Cx} {st : Stmt} {rest : List Stmt} {t u : TS} {e : Expr} {te : TE} {pos : Pos}
def tNext : TS := fun D σ H => D.nx σ H
def tSeq (t u : TS) : TS := fun D σ H => t { D with nx := u D } σ H
theorem pss_nil : PSs X [] tNext := fun _ _ σ H _ I h => wpAny_execs_nil ⟨σ, H, I, h⟩
theorem pss_cons (h1 : PS X st t) (h2 : PSs X rest u) : PSs X (st :: rest) (tSeq t u) := by
  intro pins s σ H D I h
  refine wpAny_execs_cons (thn (h1 pins s σ H { D with nx := u D } I h) fun f s1 q => ?_)
  cases f with
  | next =>
    obtain ⟨σ', H', I', q⟩ := q
    exact h2 pins s1 σ' H' D I' q
  | ret v => exact q
  | brk => exact q
  | cont => exact q
theorem pss_one (h1 : PS X st t) : PSs X [st] t := by
  intro pins s σ H D I h
  refine wpAny_execs_cons (thn (h1 pins s σ H D I h) fun f s1 q => ?_)
  cases f with
  | next => exact wpAny_execs_nil q
  | ret v => exact q
  | brk => exact q
  | cont => exact q
theorem Inv.quiet {pins : List (Addr × Obj)} {σ : St} {H : Hp} {s : Shared} (I : Inv X pins σ H s) : interactive X.env = false := by simp [interactive, I.ok.kind]
def tDrop (te : TE) : TS := fun D σ H => te σ H fun _ H1 => D.nx σ H1
theorem ps_expr (he : PE X e te) (hs : swapsWith e none pos.line X.env = pure false := by rfl) : PS X (.Expr e pos) (tDrop te) := by
  intro pins s σ H D I h
  exact wpAny_Expr_any (thn (he pins s σ H _ I h) fun v s1 ⟨x, H1, I1, r1, q1⟩ => ⟨σ, H1, I1, q1⟩) I.quiet hs
def tRet (te : TE) : TS := fun D σ H => te σ H D.rt
theorem ps_ret (he : PE X e te) : PS X (.Return (some e) pos) (tRet te) := by
  intro pins s σ H D I h
  exact wpAny_Return_some (thn (he pins s σ H _ I h) fun v s1 ⟨x, H1, I1, r1, q1⟩ => ⟨x, σ, H1, I1, r1, q1⟩)
def tIfS (c : TT) (t u : TS) : TS := fun D σ H => c σ H fun b H1 => if b = true then t D σ H1 else u D σ H1
theorem ps_if {c : Expr} {a b : List Stmt} {tc : TT} (hc : PT X c tc) (ha : PSs X a t) (hb : PSs X b u) : PS X (.If c a b pos) (tIfS tc t u) := by
  intro pins s σ H D I h
  refine wpAny_If (thn (hc pins s σ H _ I h) fun d s1 ⟨H1, I1, q1⟩ => ?_)
  cases d with
  | true => exact ha pins s1 σ H1 D I1 q1
  | false => exact hb pins s1 σ H1 D I1 q1
def tNever : TS := fun _ _ _ => False
theorem ps_never : PS X st tNever := fun _ _ _ _ _ _ h => h.elim
end

abbrev TG := V → St → Hp → (St → Hp → Prop) → Prop
def PG (X : Cx) (target : Expr) (t : TG) : Prop :=
  ∀ (pins : List (Addr × Obj)) (s : Shared) (σ : St) (H : Hp) (v : V) (u : Value) (Q : St → Hp → Prop), Inv X pins σ H s → RelV v u → t v σ H Q →
    wpAny (model X.prog X.w) X.A (assign target X.env u) (fun _ s' => ∃ σ' H', Inv X pins σ' H' s' ∧ Q σ' H') X.xe s
abbrev TSet := V → V → V → Hp → (Hp → Prop) → Prop
def PSet (X : Cx) (t : TSet) : Prop :=
  ∀ (pins : List (Addr × Obj)) (s : Shared) (σ : St) (H : Hp) (o i v : V) (ov iv u : Value) (Q : Hp → Prop), Inv X pins σ H s → RelV o ov → RelV i iv → RelV v u → t o i v H Q →
    wpAny (model X.prog X.w) X.A (setItem ov iv u) (fun _ s' => ∃ H', Inv X pins σ H' s' ∧ Q H') X.xe s
section
variable {X : Cx} {pos : Pos}
def gName (i : Nat) : TG := fun v σ H Q => Q (σ.set i (some v)) H
theorem pg_name {i : Nat} {x : Str} (hN : X.N.Nodup) (hi : X.N[i]? = some x) (hx : Loc X.env.scope x) (hf : X.fn x = true ∨ X.env.scope.names.lookup x = some .local := by first | exact .inl rfl | exact .inr rfl | assumption) : PG X (.Name x pos) (gName i) := by
  intro pins s σ H v u Q I r h
  exact wpAny_assign_Name (store_ok I hN hi hx r (fun s' I' => ⟨_, H, I', h⟩) hf)
def gSub (to ti : TE) (t : TSet) : TG := fun v σ H Q => to σ H fun o H1 => ti σ H1 fun i H2 => t o i v H2 fun H3 => Q σ H3
theorem pg_sub {o i : Expr} {to ti : TE} {t : TSet} (ho : PE X o to) (hi : PE X i ti) (hs : PSet X t)
    (ha : ∀ v, assign (.Subscript o i pos) X.env v = (do
      let ov ← holding [v] (eval o X.env)
      let iv ← holding [v, ov] (eval i X.env)
      standAt pos
      holding [v, ov, iv] (setItem ov iv v)
      release [v, ov, iv] []) := by intro _; rfl) : PG X (.Subscript o i pos) (gSub to ti t) := by
  intro pins s σ H v u Q I r h
  rw [ha]
  refine wpAny_bind (wpAny_holding (thn (ho pins s σ H _ I h) fun ov s1 ⟨x, H1, I1, r1, q1⟩ => ?_))
  refine wpAny_bind (wpAny_holding (thn (hi pins s1 σ H1 _ I1 q1) fun iv s2 ⟨y, H2, I2, r2, q2⟩ => ?_))
  refine wpAny_bind (wpAny_standAt (wpAny_bind (wpAny_holding (thn (hs pins s2 σ H2 x y v ov iv u _ I2 r1 r2 r q2) fun _ s3 ⟨H3, I3, q3⟩ => ?_))))
  exact wpAny_release ⟨σ, H3, I3, q3⟩
def tAsg (te : TE) (g : TG) : TS := fun D σ H => te σ H fun x H1 => g x σ H1 D.nx
theorem ps_asg {tg e : Expr} {te : TE} {g : TG} (he : PE X e te) (hg : PG X tg g) (hs : swapsWithSole [tg] e pos.line X.env = pure false := by rfl) (hw : swappedStores [tg] e X.env = pure none := by rfl)
    (h1 : (assignEach [tg] X.env).map (·.2) = [assign tg X.env] := by rfl) : PS X (.Assign [tg] e pos) (tAsg te g) := by
  intro pins s σ H D I h
  refine wpAny_Assign_stores (thn (he pins s σ H _ I h) fun v s1 ⟨x, H1, I1, r1, q1⟩ => ?_) hs hw
  rw [h1]
  exact thn (hg pins s1 σ H1 x v _ I1 r1 q1) fun _ s2 q => q
theorem ps_set {i : Nat} {x : Str} {e : Expr} {te : TE} {pos' : Pos} (hN : X.N.Nodup) (hi : X.N[i]? = some x) (hx : Loc X.env.scope x) (he : PE X e te) (hs : swapsWith e (some (.Name x pos')) pos.line X.env = pure false := by rfl) (hf : X.fn x = true ∨ X.env.scope.names.lookup x = some .local := by first | exact .inl rfl | exact .inr rfl | assumption) :
    PS X (.Assign [.Name x pos'] e pos) (tAsg te (gName i)) := by
  intro pins s σ H D I h
  refine wpAny_Assign_Name (thn (he pins s σ H _ I h) fun v s1 ⟨y, H1, I1, r1, q1⟩ => ?_) hs
  exact store_ok I1 hN hi hx r1 (fun s2 I2 => ⟨_, H1, I2, q1⟩) hf
end

section
variable {X : Cx} {pos : Pos}
end

structure It where
  go : Nat → Hp → Prop
  yld : Nat → Hp → V → Hp → Prop
  stop : Nat → Hp → Prop
def FpOk (X : Cx) (pins : List (Addr × Obj)) (H : Hp) (b : Addr) : Prop :=
  H b = none ∧ b ≠ X.env.locals ∧ b ∉ X.fs ∧ (b ∈ X.ex ∨ X.s₀.heap.objs.size ≤ b) ∧ (∀ x c, X.env.cells.lookup x = some c → c ≠ b) ∧ ∀ p ∈ X.pn ++ pins, p.1 ≠ b
theorem Inv.fpOk {X : Cx} {pins : List (Addr × Obj)} {σ : St} {H H' : Hp} {s : Shared} {b : Addr} (I : Inv X pins σ H s) (hb : s.heap.objs.size ≤ b) (hn : H' b = none) : FpOk X pins H' b := by
  refine ⟨hn, Nat.ne_of_gt (Nat.lt_of_lt_of_le I.lt hb), I.nofs hb, .inr (Nat.le_trans I.sz hb), fun x c e z => ?_, fun p hp z => ?_⟩
  · obtain ⟨v, q⟩ := I.cell x c e
    exact absurd (Nat.lt_of_lt_of_le q.lt (by rw [z]; exact hb)) (Nat.lt_irrefl _)
  · exact absurd (Nat.lt_of_lt_of_le (Heap.lt_size (I.pin p hp).1) (by rw [z]; exact hb)) (Nat.lt_irrefl _)
structure Turn (P : Program) (w : World) (K : PySem.W.Frag) (tg : Expr) (J : It) (fp : List Addr) (it : Addr) (tn : Nat → Heap → Prop) : Prop where
  mem : it ∈ fp
  obj : ∀ i h, tn i h → ∀ b ∈ fp, ∃ o, h.get? b = some o ∧ ∀ v, o.data ≠ .cell v
  keep : ∀ i h h', tn i h → (∀ b ∈ fp, ∀ o, h.get? b = some o → h'.get? b = some o) → tn i h'
  item : ∀ (X : Cx), X.prog = P → X.w = w → X.K = K → X.calm = true → ∀ (i : Nat) (pins : List (Addr × Obj)) (s : Shared) (σ : St) (H : Hp) (E : Value → Shared → Prop), Inv X pins σ H s → (∀ b ∈ fp, FpOk X pins H b) → tn i s.heap → J.go i H →
    wpAny (model P w) X.A (pyNext (.ref it)) (fun r s1 => ∃ u, r = some u ∧
      wpAny (model P w) X.A (letOwnedTupleGo tg (.ref it) u) (fun _ s2 => ∃ x H', Inv X pins σ H' s2 ∧ RelV x u ∧ J.yld i H x H' ∧ tn (i + 1) s2.heap ∧ ∀ b ∈ fp, H' b = none) E s1) E s
  done : ∀ (X : Cx), X.prog = P → X.w = w → X.K = K → X.calm = true → ∀ (i : Nat) (pins : List (Addr × Obj)) (s : Shared) (σ : St) (H : Hp) (E : Value → Shared → Prop), Inv X pins σ H s → (∀ b ∈ fp, FpOk X pins H b) → tn i s.heap → J.stop i H →
    wpAny (model P w) X.A (pyNext (.ref it)) (fun r s1 => r = none ∧ Inv X pins σ H s1) E s
  self : ∀ (A : Around) (i : Nat) (s : Shared) (Q : Value → Shared → Prop) (E : Value → Shared → Prop), tn i s.heap → Q (.ref it) s → wpAny (model P w) A (pyIter (.ref it)) Q E s
abbrev TI := St → Hp → (It → Hp → Prop) → Prop
def PIE (X : Cx) (pins : List (Addr × Obj)) (σ : St) (tg : Expr) (R : It → Hp → Prop) (itv : Value) (s2 : Shared) : Prop :=
  ∃ (it : Addr) (fp : List Addr) (tn : Nat → Heap → Prop) (J : It) (H' : Hp), itv = .ref it ∧ Inv X pins σ H' s2 ∧ Turn X.prog X.w X.K tg J fp it tn ∧ tn 0 s2.heap ∧ (∀ b ∈ fp, FpOk X pins H' b) ∧ R J H'
def PI (X : Cx) (tg iter : Expr) (wi : TI) : Prop :=
  ∀ (pins : List (Addr × Obj)) (s : Shared) (σ : St) (H : Hp) (R : It → Hp → Prop), Inv X pins σ H s → wi σ H R →
    wpAny (model X.prog X.w) X.A (eval iter X.env) (fun v s1 => wpAny (model X.prog X.w) X.A (pyIter v) (PIE X pins σ tg R) X.xe s1) X.xe s

theorem go_of {M : Model} {A : Around} {E : Value → Shared → Prop} {s : Shared} {tg : Expr} {it : Addr} {u : Value} {o : Obj} {n : String} {vs : Array Value} {Q : Unit → Shared → Prop} (ho : s.heap.get? it = some o) (hc : o.cls = .type n) (hd : o.data = .fields vs)
    (hn : ["enumerate", "zip", "dict_itemiterator", "dict_reverseitemiterator", "odict_iterator", "itertools.zip_longest", "itertools.pairwise"].contains n = false) (hQ : Q () s) : wpAny M A (letOwnedTupleGo tg (.ref it) u) Q E s := by
  unfold letOwnedTupleGo
  cases tg <;> first
    | exact wpAny_pure hQ
    | (cases u <;> first
        | exact wpAny_pure hQ
        | (refine wpAny_bind (wpAny_load ho ?_)
           rw [hc, hd]
           show wpAny M A (if (["enumerate", "zip", "dict_itemiterator", "dict_reverseitemiterator", "odict_iterator", "itertools.zip_longest", "itertools.pairwise"].contains n && vs[0]? == some (rawInt _)) = true then _ else _) Q E s
           rw [if_neg (by intro h; rw [hn, Bool.false_and] at h; cases h)]
           exact wpAny_pure hQ))

def Itl (K : PySem.W.Frag) (a : Addr) : It :=
  ⟨fun i H => ∃ xs x, SqL K H a xs ∧ xs[i]? = some x, fun i H x H' => H' = H ∧ ∀ xs, SqL K H a xs → xs[i]? = some x, fun i H => ∃ xs, SqL K H a xs ∧ xs.length ≤ i⟩
def Itt (K : PySem.W.Frag) (a : Addr) : It :=
  ⟨fun i H => ∃ xs x, SqT K H a xs ∧ xs[i]? = some x, fun i H x H' => H' = H ∧ ∀ xs, SqT K H a xs → xs[i]? = some x, fun i H => ∃ xs, SqT K H a xs ∧ xs.length ≤ i⟩
def Itr (lo : Int) (n : Nat) : It := ⟨fun i _ => i < n, fun i H x H' => H' = H ∧ x = .int (lo + i), fun i _ => n ≤ i⟩
theorem turn_list {P : Program} {w : World} {K : PySem.W.Frag} {tg : Expr} (a it : Addr) : Turn P w K tg (Itl K a) [it] it (fun i h => h.IsListIter it a i) where
  mem := by simp
  obj := fun i h st b hb => by
    have e : b = it := by simpa using hb
    subst e
    obtain ⟨o, e, c, d⟩ := st
    exact ⟨o, e, fun v z => by rw [d] at z; cases z⟩
  keep := fun i h h' st k => st.at fun o e => k it (by simp) o e
  item := by
    intro X hP hw hK hc i pins s σ H E I hf st hg
    subst hP hw hK
    obtain ⟨xs, x, hq, hx⟩ := hg
    obtain ⟨its, rv, p, hz⟩ := I.list hq
    obtain ⟨u, hu, ru⟩ := rv.get hx
    obtain ⟨f0, f1, f2, f3, f4, f5⟩ := hf it (by simp)
    refine wpAny_pyNext_list_item st p.isList (x := u) (by simpa using hu) fun h' st' sb => ?_
    have I1 : Inv X pins σ H { s with heap := h' } := I.turned (t' := s.toks) (fun b o hb e => (sb.2 b hb).trans e) f0 f1 f3 f4 f5
    obtain ⟨o, e, c, d⟩ := id st'
    exact ⟨u, rfl, go_of (s := { s with heap := h' }) e c d (by decide) ⟨x, H, I1, ru, ⟨rfl, fun ys hy => by rw [I.list_inj hy hq]; exact hx⟩, st', fun b hb => (hf b hb).1⟩⟩
  done := by
    intro X hP hw hK hc i pins s σ H E I hf st hg
    subst hP hw hK
    obtain ⟨xs, hq, hx⟩ := hg
    obtain ⟨its, rv, p, hz⟩ := I.list hq
    obtain ⟨f0, f1, f2, f3, f4, f5⟩ := hf it (by simp)
    have hl := rv.length
    exact wpAny_pyNext_list_end (I.ok.hd hc) st p.isList (by simp; omega) fun h' eb => ⟨rfl, I.turned (t' := s.toks) (fun b o hb e => eb b o hb e) f0 f1 f3 f4 f5⟩
  self := fun _ _ _ _ _ st h => wpAny_pyIter_listiter st h
theorem turn_tuple {P : Program} {w : World} {K : PySem.W.Frag} {tg : Expr} (a it : Addr) : Turn P w K tg (Itt K a) [it] it (fun i h => h.IsTupleIter it a i) where
  mem := by simp
  obj := fun i h st b hb => by
    have e : b = it := by simpa using hb
    subst e
    obtain ⟨o, e, c, d⟩ := st
    exact ⟨o, e, fun v z => by rw [d] at z; cases z⟩
  keep := fun i h h' st k => st.at fun o e => k it (by simp) o e
  item := by
    intro X hP hw hK hc i pins s σ H E I hf st hg
    subst hP hw hK
    obtain ⟨xs, x, hq, hx⟩ := hg
    obtain ⟨its, rv, p, hz⟩ := I.tuple hq
    obtain ⟨u, hu, ru⟩ := rv.get hx
    obtain ⟨f0, f1, f2, f3, f4, f5⟩ := hf it (by simp)
    refine wpAny_pyNext_tuple_item st (show s.heap.IsTuple a its.toArray from p) (x := u) (by simpa using hu) fun h' st' sb => ?_
    have I1 : Inv X pins σ H { s with heap := h' } := I.turned (t' := s.toks) (fun b o hb e => (sb.2 b hb).trans e) f0 f1 f3 f4 f5
    obtain ⟨o, e, c, d⟩ := id st'
    exact ⟨u, rfl, go_of (s := { s with heap := h' }) e c d (by decide) ⟨x, H, I1, ru, ⟨rfl, fun ys hy => by rw [I.tuple_inj hy hq]; exact hx⟩, st', fun b hb => (hf b hb).1⟩⟩
  done := by
    intro X hP hw hK hc i pins s σ H E I hf st hg
    subst hP hw hK
    obtain ⟨xs, hq, hx⟩ := hg
    obtain ⟨its, rv, p, hz⟩ := I.tuple hq
    obtain ⟨f0, f1, f2, f3, f4, f5⟩ := hf it (by simp)
    have hl := rv.length
    exact wpAny_pyNext_tuple_end (I.ok.hd hc) st (show s.heap.IsTuple a its.toArray from p) (by simp; omega) fun h' eb => ⟨rfl, I.turned (t' := s.toks) (fun b o hb e => eb b o hb e) f0 f1 f3 f4 f5⟩
  self := fun _ _ _ _ _ st h => wpAny_pyIter_tupleiter st h
theorem turn_range {P : Program} {w : World} {K : PySem.W.Frag} {tg : Expr} (it : Addr) (lo : Int) (n : Nat) : Turn P w K tg (Itr lo n) [it] it (fun i h => IsRangeIter h it (lo + (i : Nat) * 1) ((n : Int) - (i : Nat)) 1) where
  mem := by simp
  obj := fun i h st b hb => by
    have e : b = it := by simpa using hb
    subst e
    exact ⟨_, st, fun v z => by
      have z' : Data.fields _ = Data.cell v := z
      cases z'⟩
  keep := fun i h h' st k => k it (by simp) _ st
  item := by
    intro X hP hw hK hc i pins s σ H E I hf st hg
    subst hP hw hK
    obtain ⟨f0, f1, f2, f3, f4, f5⟩ := hf it (by simp)
    have W := Walks.range (prog := X.prog) (w := X.w) (I.ok.hd hc) it lo 1 n
    refine W.item i s _ _ hg st fun v h' tk hv st' kk => ?_
    obtain ⟨t, rfl⟩ := hv
    have I1 : Inv X pins σ H { s with heap := h', toks := tk } := I.turned (fun b o hb e => kk b o (by simpa using hb) e) f0 f1 f3 f4 f5
    refine ⟨_, rfl, go_of (s := { s with heap := h', toks := tk }) (n := "range_iterator") st' rfl rfl (by decide) ⟨.int (lo + i), H, I1, ⟨t, ?_⟩, ⟨rfl, rfl⟩, st', fun b hb => (hf b hb).1⟩⟩
    rw [Int.mul_one]
  done := by
    intro X hP hw hK hc i pins s σ H E I hf st hg
    subst hP hw hK
    obtain ⟨f0, f1, f2, f3, f4, f5⟩ := hf it (by simp)
    exact wpAny_pyNext_range_end (I.ok.hd hc) st (by have : n ≤ i := hg; omega) fun h' eb => ⟨rfl, I.turned (t' := s.toks) (fun b o hb e => eb b o hb e) f0 f1 f3 f4 f5⟩
  self := fun _ _ _ _ _ st h => wpAny_pyIter_rangeiter st h
end L2

namespace L2
open PySem PySem.Spec PyProof.Rows
section
variable {X : Cx} {tg : Expr}
def iList (K : PySem.W.Frag) (tl : TE) : TI := fun σ H R => tl σ H fun x H1 => ∃ a, x = .ref a ∧ (∃ xs, SqL K H1 a xs) ∧ R (Itl K a) H1
theorem pi_list {l : Expr} {tl : TE} (hl : PE X l tl) : PI X tg l (iList X.K tl) := by
  intro pins s σ H R I h
  refine thn (hl pins s σ H _ I h) fun v s1 ⟨x, H1, I1, r1, q1⟩ => ?_
  obtain ⟨a, e, ⟨xs, hq⟩, q⟩ := q1
  subst e
  cases r1
  obtain ⟨its, rv, p, hz⟩ := I1.list hq
  refine wpAny_pyIter_list p.isList ?_
  refine ⟨s1.heap.objs.size, [s1.heap.objs.size], _, _, H1, rfl, I1.kept (t' := s1.toks) fun b o e => Heap.get?_push_of_some _ e, turn_list a _, ⟨_, Heap.get?_push_size _ rfl, rfl, rfl⟩, fun b hb => ?_, q⟩
  have e : b = s1.heap.objs.size := by simpa using hb
  subst e
  exact I1.fpOk (Nat.le_refl _) (I1.hok.fresh (Nat.le_refl _))
theorem range_it {pins : List (Addr × Obj)} {σ : St} {H : Hp} {s : Shared} {R : It → Hp → Prop} {E : Value → Shared → Prop} {lo hi : Int} {t u v : Tok} {tk : Nat} (I : Inv X pins σ H s) (h1 : -(2 ^ 62) ≤ lo) (h2 : lo < 2 ^ 62) (h3 : -(2 ^ 62) ≤ hi) (h4 : hi < 2 ^ 62)
    (q : R (Itr lo (hi - lo).toNat) H) : wpAny (model X.prog X.w) X.A (pyIter (.ref s.heap.objs.size)) (PIE X pins σ tg R) E { s with heap := s.heap.push { cls := .type "range", data := .fields #[.int lo t, .int hi u, .int 1 v] }, toks := tk } := by
  refine wpAny_pyIter_range (IsRange.new ..) (small_one h1 h2 h3 h4) ?_
  have I1 : Inv X pins σ H { s with heap := s.heap.push { cls := .type "range", data := .fields #[.int lo t, .int hi u, .int 1 v] }, toks := tk } := I.kept fun b o e => Heap.get?_push_of_some _ e
  refine ⟨(s.heap.push { cls := .type "range", data := .fields #[.int lo t, .int hi u, .int 1 v] }).objs.size, [(s.heap.push { cls := .type "range", data := .fields #[.int lo t, .int hi u, .int 1 v] }).objs.size], _, _, H, rfl,
    I1.kept (t' := tk) fun b o e => Heap.get?_push_of_some _ e, turn_range _ lo (hi - lo).toNat, ?_, fun b hb => ?_, q⟩
  · have e1 : lo + ((0 : Nat) : Int) * 1 = lo := by simp
    have e2 : (((hi - lo).toNat : Nat) : Int) - ((0 : Nat) : Int) = Builtin.Range.rangeSize lo hi 1 := by rw [rangeSize_one]; split <;> omega
    show IsRangeIter _ _ (lo + ((0 : Nat) : Int) * 1) ((((hi - lo).toNat : Nat) : Int) - ((0 : Nat) : Int)) 1
    rw [e1, e2]
    exact Heap.get?_push_size _ rfl
  · have e : b = (s.heap.push { cls := .type "range", data := .fields #[.int lo t, .int hi u, .int 1 v] }).objs.size := by simpa using hb
    subst e
    exact I1.fpOk (Nat.le_refl _) (I1.hok.fresh (Nat.le_refl _))
def iRng1 (ta : TA) : TI := fun σ H R => ta σ H fun vs H1 => ∃ j : Int, vs = [.int j] ∧ -(2 ^ 62) ≤ j ∧ j < 2 ^ 62 ∧ R (Itr 0 j.toNat) H1
theorem pi_range1 {a : Expr} {ta : TA} {p pos : Pos} (hg : Gl X "range") (hm : X.mg "range" = none) (ha : PA X [a] ta) (hs : starEach [a] X.env = [(false, eval a X.env)] := by rfl) : PI X tg (.Call (.Name "range" p) [a] [] pos) (iRng1 ta) := by
  intro pins s σ H R I h
  refine Call_ (ld_blt I hg hm boot_range (PyProof.Rows.callWith_type1 (thn (ha pos pins s σ H _ I h) fun us s1 ⟨vs, H1, I1, r1, q1⟩ => ?_) hs rfl))
  obtain ⟨j, e, q1, q2, q⟩ := q1
  subst e
  cases r1 with
  | cons r rr =>
    cases rr
    obtain ⟨t, rfl⟩ := r
    exact call_range_1 (range_it I1 (by omega) (by omega) q1 q2 (by simpa using q))

def tFor (wi : TI) (g : TG) (tb : TS) : TS := fun D σ H => wi σ H fun J H1 => ∃ W : Nat → Nat → St → Hp → Prop, (∃ m, W 0 m σ H1) ∧ ∀ i m σ H, W i m σ H →
  (J.stop i H ∧ D.nx σ H) ∨ (J.go i H ∧ ∃ N : St → Hp → Prop, (∀ σ' H', N σ' H' → ∃ m', m' < m ∧ W (i + 1) m' σ' H') ∧ ∀ x H', J.yld i H x H' → g x σ H' fun σ2 H2 => tb { D with nx := N, ct := N, bk := D.nx } σ2 H2)
def pinsAt (fp : List Addr) (h : Heap) : List (Addr × Obj) := fp.filterMap fun b => (h.get? b).map fun o => (b, o)
theorem mem_pinsAt {fp : List Addr} {h : Heap} {b : Addr} {o : Obj} (hb : b ∈ fp) (e : h.get? b = some o) : (b, o) ∈ pinsAt fp h := List.mem_filterMap.mpr ⟨b, hb, by rw [e]; rfl⟩
theorem of_pinsAt {fp : List Addr} {h : Heap} {p : Addr × Obj} (hp : p ∈ pinsAt fp h) : p.1 ∈ fp ∧ h.get? p.1 = some p.2 := by
  obtain ⟨b, hb, e⟩ := List.mem_filterMap.mp hp
  cases q : h.get? b with
  | none => rw [q] at e; cases e
  | some o =>
    rw [q] at e
    have e' : (b, o) = p := Option.some.inj e
    subst e'
    exact ⟨hb, q⟩
theorem Inv.pinned {pins : List (Addr × Obj)} {σ : St} {H : Hp} {s : Shared} {fp : List Addr} (I : Inv X pins σ H s) (hf : ∀ b ∈ fp, FpOk X pins H b) (ho : ∀ b ∈ fp, ∃ o, s.heap.get? b = some o ∧ ∀ v, o.data ≠ .cell v) : Inv X (pins ++ pinsAt fp s.heap) σ H s :=
  I.pins_of fun p hp => (List.mem_append.mp hp).elim (fun z => I.pin p (List.mem_append_right _ z)) fun z => by
    obtain ⟨hb, e⟩ := of_pinsAt z
    obtain ⟨f0, f1, f2, _⟩ := hf p.1 hb
    obtain ⟨o, e', d⟩ := ho p.1 hb
    rw [e] at e'; cases e'
    exact ⟨e, f0, f1, f2, d⟩
theorem Inv.unpinned {pins pl : List (Addr × Obj)} {σ : St} {H : Hp} {s : Shared} (I : Inv X (pins ++ pl) σ H s) : Inv X pins σ H s := I.pins_of fun p hp => I.pin p (List.mem_append_right _ (List.mem_append_left _ hp))
theorem ps_for {iter : Expr} {body : List Stmt} {wi : TI} {g : TG} {tb : TS} {pos : Pos} (hp : PassesOwn (model X.prog X.w) X.A X.env X.xe) (hc : X.calm = true) (hi : PI X tg iter wi) (hg : PG X tg g) (hb : PSs X body tb)
    (hs : ∀ x, foldedSetIterable iter X.env x = pure x := by intro _; rfl) : PS X (.For tg iter body [] pos) (tFor wi g tb) := by
  intro pins s σ H D I h
  refine wpAny_For (thn (hi pins s σ H _ I h) fun v s1 h1 => thn h1 fun itv s2 h2 => ?_) hs
  obtain ⟨it, fp, tn, J, H2, e, I2, T, st2, f2, W, ⟨m0, w0⟩, turn⟩ := h2
  subst e
  -- what stays true of the iterator's objects through the loop
  have stat : ∀ {H' : Hp}, (∀ b ∈ fp, H' b = none) → ∀ b ∈ fp, FpOk X pins H' b := fun hn b hb => ⟨hn b hb, (f2 b hb).2⟩
  refine codeAny_forLoop_any (fun n s' => ∃ i σ' H', Inv X pins σ' H' s' ∧ tn i s'.heap ∧ (∀ b ∈ fp, H' b = none) ∧ W i n σ' H') ?_ m0 ⟨0, σ, H2, I2, st2, fun b hb => (f2 b hb).1, w0⟩
  rintro n s3 ⟨i, σ3, H3, I3, st3, fr3, w3⟩
  rcases turn i n σ3 H3 w3 with ⟨stop, qn⟩ | ⟨go, N, hN, step⟩
  · refine wpAny_passesOwn hp (thn (T.done X rfl rfl rfl hc i pins s3 σ3 H3 X.xe I3 (stat fr3) st3 stop) fun r s4 ⟨hr, I4⟩ => ?_)
    subst hr
    exact wpAny_execs_nil ⟨σ3, H3, I4, qn⟩
  · refine wpAny_passesOwn hp (thn (T.item X rfl rfl rfl hc i pins s3 σ3 H3 X.xe I3 (stat fr3) st3 go) fun r s4 ⟨u, hr, h4⟩ => ?_)
    subst hr
    refine wpAny_passesOwn hp (thn h4 fun _ s5 ⟨x, H5, I5, r5, y5, st5, fr5⟩ => ?_)
    have I5' := I5.pinned (stat fr5) (T.obj _ _ st5)
    refine wpAny_passesOwn hp (thn (hg _ s5 σ3 H5 x u _ I5' r5 (step x H5 y5)) fun _ s6 ⟨σ6, H6, I6, q6⟩ => ?_)
    refine wpAny_passesOwn hp (thn (hb _ s6 σ6 H6 _ I6 q6) fun f s7 q7 => ?_)
    have again : ∀ {σ7 : St} {H7 : Hp}, Inv X (pins ++ pinsAt fp s5.heap) σ7 H7 s7 → N σ7 H7 → ∃ m, m < n ∧ ∃ i σ' H', Inv X pins σ' H' s7 ∧ tn i s7.heap ∧ (∀ b ∈ fp, H' b = none) ∧ W i m σ' H' := fun {σ7 H7} I7 n7 => by
      obtain ⟨m', hm, w7⟩ := hN σ7 H7 n7
      refine ⟨m', hm, i + 1, σ7, H7, I7.unpinned, T.keep _ _ _ st5 fun b hb o e => (I7.pin (b, o) (List.mem_append_right _ (List.mem_append_right _ (mem_pinsAt hb e)))).1, fun b hb => ?_, w7⟩
      obtain ⟨o, e, d⟩ := T.obj _ _ st5 b hb
      exact (I7.pin (b, o) (List.mem_append_right _ (List.mem_append_right _ (mem_pinsAt hb e)))).2.1
    cases f with
    | next => obtain ⟨σ7, H7, I7, n7⟩ := q7; exact again I7 n7
    | cont => obtain ⟨σ7, H7, I7, n7⟩ := q7; exact again I7 n7
    | brk => obtain ⟨σ7, H7, I7, q7⟩ := q7; exact ⟨σ7, H7, I7.unpinned, q7⟩
    | ret v => obtain ⟨x7, σ7, H7, I7, r7, q7⟩ := q7; exact ⟨x7, σ7, H7, I7.unpinned, r7, q7⟩
end

theorem for_list {K : PySem.W.Frag} {a : Addr} {xs : List V} {g : TG} {tb : TS} {D : Ends} {σ : St} {H : Hp} (Pv : Nat → St → Hp → Prop) (h0 : Pv 0 σ H) (hl : ∀ i σ H, i ≤ xs.length → Pv i σ H → SqL K H a xs)
    (hs : ∀ i x σ H, xs[i]? = some x → Pv i σ H → g x σ H fun σ2 H2 => tb { D with nx := Pv (i + 1), ct := Pv (i + 1), bk := D.nx } σ2 H2) (hd : ∀ σ H, Pv xs.length σ H → D.nx σ H) :
    ∃ W : Nat → Nat → St → Hp → Prop, (∃ m, W 0 m σ H) ∧ ∀ i m σ H, W i m σ H →
      ((Itl K a).stop i H ∧ D.nx σ H) ∨ ((Itl K a).go i H ∧ ∃ N : St → Hp → Prop, (∀ σ' H', N σ' H' → ∃ m', m' < m ∧ W (i + 1) m' σ' H') ∧ ∀ x H', (Itl K a).yld i H x H' → g x σ H' fun σ2 H2 => tb { D with nx := N, ct := N, bk := D.nx } σ2 H2) := by
  refine ⟨fun i m σ H => m = xs.length - i ∧ i ≤ xs.length ∧ Pv i σ H, ⟨xs.length, by simp, Nat.zero_le _, h0⟩, ?_⟩
  rintro i m σ H ⟨rfl, hi, p⟩
  have q := hl i σ H hi p
  by_cases hlt : i < xs.length
  · refine .inr ⟨⟨xs, xs[i], q, by simp [hlt]⟩, Pv (i + 1), fun σ' H' p' => ⟨xs.length - (i + 1), by omega, rfl, hlt, p'⟩, fun x H' y => ?_⟩
    obtain ⟨e, y⟩ := y
    subst e
    exact hs i x σ _ (y xs q) p
  · have e : i = xs.length := by omega
    subst e
    exact .inl ⟨⟨xs, q, Nat.le_refl _⟩, hd σ H p⟩
theorem for_tup {K : PySem.W.Frag} {a : Addr} {xs : List V} {g : TG} {tb : TS} {D : Ends} {σ : St} {H : Hp} (Pv : Nat → St → Hp → Prop) (h0 : Pv 0 σ H) (hl : ∀ i σ H, i ≤ xs.length → Pv i σ H → SqT K H a xs)
    (hs : ∀ i x σ H, xs[i]? = some x → Pv i σ H → g x σ H fun σ2 H2 => tb { D with nx := Pv (i + 1), ct := Pv (i + 1), bk := D.nx } σ2 H2) (hd : ∀ σ H, Pv xs.length σ H → D.nx σ H) :
    ∃ W : Nat → Nat → St → Hp → Prop, (∃ m, W 0 m σ H) ∧ ∀ i m σ H, W i m σ H →
      ((Itt K a).stop i H ∧ D.nx σ H) ∨ ((Itt K a).go i H ∧ ∃ N : St → Hp → Prop, (∀ σ' H', N σ' H' → ∃ m', m' < m ∧ W (i + 1) m' σ' H') ∧ ∀ x H', (Itt K a).yld i H x H' → g x σ H' fun σ2 H2 => tb { D with nx := N, ct := N, bk := D.nx } σ2 H2) := by
  refine ⟨fun i m σ H => m = xs.length - i ∧ i ≤ xs.length ∧ Pv i σ H, ⟨xs.length, by simp, Nat.zero_le _, h0⟩, ?_⟩
  rintro i m σ H ⟨rfl, hi, p⟩
  have q := hl i σ H hi p
  by_cases hlt : i < xs.length
  · refine .inr ⟨⟨xs, xs[i], q, by simp [hlt]⟩, Pv (i + 1), fun σ' H' p' => ⟨xs.length - (i + 1), by omega, rfl, hlt, p'⟩, fun x H' y => ?_⟩
    obtain ⟨e, y⟩ := y
    subst e
    exact hs i x σ _ (y xs q) p
  · have e : i = xs.length := by omega
    subst e
    exact .inl ⟨⟨xs, q, Nat.le_refl _⟩, hd σ H p⟩
theorem for_range {lo : Int} {n : Nat} {g : TG} {tb : TS} {D : Ends} {σ : St} {H : Hp} (Pv : Nat → St → Hp → Prop) (h0 : Pv 0 σ H)
    (hs : ∀ i σ H, i < n → Pv i σ H → g (.int (lo + i)) σ H fun σ2 H2 => tb { D with nx := Pv (i + 1), ct := Pv (i + 1), bk := D.nx } σ2 H2) (hd : ∀ σ H, Pv n σ H → D.nx σ H) :
    ∃ W : Nat → Nat → St → Hp → Prop, (∃ m, W 0 m σ H) ∧ ∀ i m σ H, W i m σ H →
      ((Itr lo n).stop i H ∧ D.nx σ H) ∨ ((Itr lo n).go i H ∧ ∃ N : St → Hp → Prop, (∀ σ' H', N σ' H' → ∃ m', m' < m ∧ W (i + 1) m' σ' H') ∧ ∀ x H', (Itr lo n).yld i H x H' → g x σ H' fun σ2 H2 => tb { D with nx := N, ct := N, bk := D.nx } σ2 H2) := by
  refine ⟨fun i m σ H => m = n - i ∧ i ≤ n ∧ Pv i σ H, ⟨n, by simp, Nat.zero_le _, h0⟩, ?_⟩
  rintro i m σ H ⟨rfl, hi, p⟩
  by_cases hlt : i < n
  · refine .inr ⟨hlt, Pv (i + 1), fun σ' H' p' => ⟨n - (i + 1), by omega, rfl, hlt, p'⟩, fun x H' y => ?_⟩
    obtain ⟨e, y⟩ := y
    subst e y
    exact hs i σ _ hlt p
  · have e : i = n := by omega
    subst e
    exact .inl ⟨Nat.le_refl _, hd σ H p⟩
end L2

namespace L2
open PySem PySem.Spec PyProof.Rows

abbrev R2 := V → V → Hp → VK → Prop
def OpR (X : Cx) (f : Value → Value → Sem Value) (r : R2) : Prop :=
  ∀ (pins : List (Addr × Obj)) (s : Shared) (σ : St) (H : Hp) (x y : V) (v u : Value) (Q : VK), Inv X pins σ H s → RelV x v → RelV y u → r x y H Q →
    wpAny (model X.prog X.w) X.A (f v u) (EP X pins σ Q) X.xe s
def CallR (X : Cx) (f : Value) (r : List V → Hp → VK → Prop) : Prop :=
  ∀ (pins : List (Addr × Obj)) (s : Shared) (σ : St) (H : Hp) (xs : List V) (us : List Value) (Q : VK), Inv X pins σ H s → Vals xs us → r xs H Q →
    wpAny (model X.prog X.w) X.A (call f us) (EP X pins σ Q) X.xe s

def tOp (r : R2) (ta tb : TE) : TE := fun σ H Q => ta σ H fun x H1 => tb σ H1 fun y H2 => r x y H2 Q
def rI (C : Int → Int → Prop) (g : Int → Int → V) : R2 := fun x y H Q => ∃ i j, x = .int i ∧ y = .int j ∧ C i j ∧ Q (g i j) H
def rI0 (g : Int → Int → V) : R2 := fun x y H Q => ∃ i j, x = .int i ∧ y = .int j ∧ Q (g i j) H

section
variable {X : Cx} {a b c : Expr} {ta tb tc : TE} {pos : Pos}

theorem binT (ha : PE X a ta) (hb : PE X b tb) {pins : List (Addr × Obj)} {s : Shared} {σ : St} {H : Hp} {R : V → V → Hp → Prop} (I : Inv X pins σ H s)
    (h : ta σ H fun x H1 => tb σ H1 fun y H2 => R x y H2) {Q : Value → Shared → Prop} {f : Value → Value → Sem Value}
    (hf : ∀ v u s2 x y H2, Inv X pins σ H2 s2 → RelV x v → RelV y u → R x y H2 → wpAny (model X.prog X.w) X.A (f v u) Q X.xe s2) :
    wpAny (model X.prog X.w) X.A (eval a X.env) (fun v s₁ => wpAny (model X.prog X.w) X.A (eval b X.env) (fun u s₂ => wpAny (model X.prog X.w) X.A (f v u) Q X.xe s₂) X.xe s₁) X.xe s := by
  refine thn (ha pins s σ H _ I h) fun v s1 ⟨x, H1, I1, r1, q1⟩ => ?_
  refine thn (hb pins s1 σ H1 _ I1 q1) fun u s2 ⟨y, H2, I2, r2, q2⟩ => ?_
  exact hf v u s2 x y H2 I2 r1 r2 q2

theorem pe_op {op : Operator} {r : R2} (ho : OpR X (binaryOp op) r) (ha : PE X a ta) (hb : PE X b tb) : PE X (.BinOp a op b pos) (tOp r ta tb) := by
  intro pins s σ H Q I h
  exact wpAny_BinOp (binT ha hb I h fun v u s2 x y H2 I2 rx ry q => ho pins s2 σ H2 x y v u Q I2 rx ry q)

theorem opI {f : Value → Value → Sem Value} {C : Int → Int → Prop} {g : Int → Int → Int}
    (rule : ∀ (i j : Int) (t u : Tok) (s : Shared) (Q : Value → Shared → Prop) (E : Value → Shared → Prop), C i j → Q (.int (g i j) s.toks) { s with toks := s.toks + 1 } → wpAny (model X.prog X.w) X.A (f (.int i t) (.int j u)) Q E s) :
    OpR X f (rI C fun i j => .int (g i j)) := by
  intro pins s σ H x y v u Q I rx ry h
  obtain ⟨i, j, rfl, rfl, hc, q⟩ := h
  obtain ⟨t, rfl⟩ := rx
  obtain ⟨t', rfl⟩ := ry
  exact rule i j t t' s _ _ hc ⟨.int (g i j), H, I.tok _, ⟨_, rfl⟩, q⟩
theorem opI0 {f : Value → Value → Sem Value} {g : Int → Int → Int}
    (rule : ∀ (i j : Int) (t u : Tok) (s : Shared) (Q : Value → Shared → Prop) (E : Value → Shared → Prop), Q (.int (g i j) s.toks) { s with toks := s.toks + 1 } → wpAny (model X.prog X.w) X.A (f (.int i t) (.int j u)) Q E s) :
    OpR X f (rI0 fun i j => .int (g i j)) := by
  intro pins s σ H x y v u Q I rx ry h
  obtain ⟨i, j, rfl, rfl, q⟩ := h
  obtain ⟨t, rfl⟩ := rx
  obtain ⟨t', rfl⟩ := ry
  exact rule i j t t' s _ _ ⟨.int (g i j), H, I.tok _, ⟨_, rfl⟩, q⟩
theorem opB0 {f : Value → Value → Sem Value} {g : Int → Int → Bool}
    (rule : ∀ (i j : Int) (t u : Tok) (s : Shared) (Q : Value → Shared → Prop) (E : Value → Shared → Prop), Q (.bool (g i j)) s → wpAny (model X.prog X.w) X.A (f (.int i t) (.int j u)) Q E s) :
    OpR X f (rI0 fun i j => .bl (g i j)) := by
  intro pins s σ H x y v u Q I rx ry h
  obtain ⟨i, j, rfl, rfl, q⟩ := h
  obtain ⟨t, rfl⟩ := rx
  obtain ⟨t', rfl⟩ := ry
  exact rule i j t t' s _ _ ⟨.bl (g i j), H, I, rfl, q⟩

def CDiv (i j : Int) : Prop := 0 < j ∧ j < 1073741824

theorem op_add : OpR X (binaryOp .Add) (rI0 fun i j => .int (i + j)) := opI0 fun _ _ _ _ _ _ _ q => add_int q
theorem op_sub : OpR X (binaryOp .Sub) (rI0 fun i j => .int (i - j)) := opI0 fun _ _ _ _ _ _ _ q => sub_int q
theorem op_fdiv : OpR X (binaryOp .FloorDiv) (rI CDiv fun i j => .int (i / j)) := opI fun i j _ _ _ _ _ hc q => by
  have h1 : (0 : Int) < j := hc.1
  have h2 : j < 1073741824 := hc.2
  exact floordiv_int (by omega) (by rw [Int.fdiv_eq_ediv_of_nonneg i (by omega)]; exact q) (.inl (PyProof.noPylong_small (by omega)))
theorem op_mod : OpR X (binaryOp .Mod) (rI (fun _ j => 0 < j) fun i j => .int (i % j)) := opI fun i j _ _ _ _ _ hc q => by
  have h1 : (0 : Int) < j := hc
  exact mod_int' (by omega) (by rw [Int.fmod_eq_emod_of_nonneg i (by omega)]; exact q)



end

def scal : V → V → Bool
  | .non, .non => true | .non, .int _ => true | .int _, .non => true | .non, .bl _ => true | .bl _, .non => true | .non, .str _ => true | .str _, .non => true
  | .int _, .int _ => true | .bl _, .bl _ => true | .str _, .str _ => true | .byt _, .byt _ => true
  | .int _, .str _ => true | .str _, .int _ => true | .bl _, .str _ => true | .str _, .bl _ => true
  | _, _ => false
def rEq : R2 := fun x y H Q => scal x y = true ∧ Q (.bl (decide (x = y))) H
def rNe : R2 := fun x y H Q => scal x y = true ∧ Q (.bl (!decide (x = y))) H

theorem dec_int {i j : Int} : decide (V.int i = V.int j) = (i == j) := by
  rw [Bool.eq_iff_iff]
  simp
theorem dec_bl {i j : Bool} : decide (V.bl i = V.bl j) = (i == j) := by
  rw [Bool.eq_iff_iff]
  simp
theorem dec_str {i j : Str} : decide (V.str i = V.str j) = (i == j) := by
  rw [Bool.eq_iff_iff]
  simp
theorem dec_byt {i j : Array UInt8} : decide (V.byt i = V.byt j) = (i.toList == j.toList) := by
  rw [Bool.eq_iff_iff]
  cases i
  cases j
  simp

section
variable {X : Cx} {a b c : Expr} {ta tb tc : TE} {pos : Pos}
theorem fin_bl {pins : List (Addr × Obj)} {σ : St} {H : Hp} {s : Shared} {Q : VK} {k k' : Bool} (I : Inv X pins σ H s) (q : Q (.bl k) H) (e : k = k') : EP X pins σ Q (.bool k') s := by
  subst e
  exact ⟨.bl k, H, I, rfl, q⟩
theorem op_eq : OpR X (compareOp .Eq) rEq := by
  intro pins s σ H x y v u Q I rx ry h
  obtain ⟨hs, q⟩ := h
  cases x with
  | non =>
    cases rx
    cases y with
    | non => cases ry; exact PySem.EqNone.eq_none_none (fin_bl I q (by simp))
    | bl j => cases ry; exact PySem.EqNone.eq_none_bool (fin_bl I q (by simp))
    | int j => obtain ⟨t', rfl⟩ := ry; exact PySem.EqNone.eq_none_int (fin_bl I q (by simp))
    | str j => obtain ⟨t', rfl⟩ := ry; exact PySem.EqNone.eq_none_str (fin_bl I q (by simp))
    | _ => exact absurd (show false = true from hs) Bool.false_ne_true
  | bl i =>
    cases rx
    cases y with
    | non => cases ry; exact PySem.EqNone.eq_bool_none (fin_bl I q (by simp))
    | bl j => cases ry; exact eq_bool (fin_bl I q dec_bl)
    | str j => obtain ⟨t', rfl⟩ := ry; exact PySem.EqMixed.eq_bool_str (fin_bl I q (by simp))
    | _ => exact absurd (show false = true from hs) Bool.false_ne_true
  | int i =>
    obtain ⟨t, rfl⟩ := rx
    cases y with
    | non => cases ry; exact PySem.EqNone.eq_int_none (fin_bl I q (by simp))
    | int j => obtain ⟨t', rfl⟩ := ry; exact eq_int (fin_bl I q dec_int)
    | str j => obtain ⟨t', rfl⟩ := ry; exact PySem.EqMixed.eq_int_str (fin_bl I q (by simp))
    | _ => exact absurd (show false = true from hs) Bool.false_ne_true
  | str i =>
    obtain ⟨t, rfl⟩ := rx
    cases y with
    | non => cases ry; exact PySem.EqNone.eq_str_none (fin_bl I q (by simp))
    | bl j => cases ry; exact PySem.EqMixed.eq_str_bool (fin_bl I q (by simp))
    | int j => obtain ⟨t', rfl⟩ := ry; exact PySem.EqMixed.eq_str_int (fin_bl I q (by simp))
    | str j => obtain ⟨t', rfl⟩ := ry; exact eq_str (fin_bl I q dec_str)
    | _ => exact absurd (show false = true from hs) Bool.false_ne_true
  | byt i =>
    obtain ⟨t, rfl⟩ := rx
    cases y with
    | byt j => obtain ⟨t', rfl⟩ := ry; exact PySem.W.eq_bytes (fin_bl I q dec_byt)
    | _ => exact absurd (show false = true from hs) Bool.false_ne_true
  | _ => cases y <;> exact absurd (show false = true from hs) Bool.false_ne_true
theorem op_ne : OpR X (compareOp .NotEq) rNe := by
  intro pins s σ H x y v u Q I rx ry h
  obtain ⟨hs, q⟩ := h
  cases x with
  | non =>
    cases rx
    cases y with
    | non => cases ry; exact PySem.EqNone.ne_none_none (fin_bl I q (by simp))
    | bl j => cases ry; exact PySem.EqNone.ne_none_bool (fin_bl I q (by simp))
    | int j => obtain ⟨t', rfl⟩ := ry; exact PySem.EqNone.ne_none_int (fin_bl I q (by simp))
    | str j => obtain ⟨t', rfl⟩ := ry; exact PySem.EqNone.ne_none_str (fin_bl I q (by simp))
    | _ => exact absurd (show false = true from hs) Bool.false_ne_true
  | bl i =>
    cases rx
    cases y with
    | non => cases ry; exact PySem.EqNone.ne_bool_none (fin_bl I q (by simp))
    | bl j => cases ry; exact ne_bool (fin_bl I q (congrArg not dec_bl))
    | str j => obtain ⟨t', rfl⟩ := ry; exact PySem.EqMixed.ne_bool_str (fin_bl I q (by simp))
    | _ => exact absurd (show false = true from hs) Bool.false_ne_true
  | int i =>
    obtain ⟨t, rfl⟩ := rx
    cases y with
    | non => cases ry; exact PySem.EqNone.ne_int_none (fin_bl I q (by simp))
    | int j => obtain ⟨t', rfl⟩ := ry; exact ne_int (fin_bl I q (congrArg not dec_int))
    | str j => obtain ⟨t', rfl⟩ := ry; exact PySem.EqMixed.ne_int_str (fin_bl I q (by simp))
    | _ => exact absurd (show false = true from hs) Bool.false_ne_true
  | str i =>
    obtain ⟨t, rfl⟩ := rx
    cases y with
    | non => cases ry; exact PySem.EqNone.ne_str_none (fin_bl I q (by simp))
    | bl j => cases ry; exact PySem.EqMixed.ne_str_bool (fin_bl I q (by simp))
    | int j => obtain ⟨t', rfl⟩ := ry; exact PySem.EqMixed.ne_str_int (fin_bl I q (by simp))
    | str j => obtain ⟨t', rfl⟩ := ry; exact ne_str (fin_bl I q (congrArg not dec_str))
    | _ => exact absurd (show false = true from hs) Bool.false_ne_true
  | byt i =>
    obtain ⟨t, rfl⟩ := rx
    cases y with
    | byt j => obtain ⟨t', rfl⟩ := ry; exact PySem.W.ne_bytes (fin_bl I q (congrArg not dec_byt))
    | _ => exact absurd (show false = true from hs) Bool.false_ne_true
  | _ => cases y <;> exact absurd (show false = true from hs) Bool.false_ne_true

theorem op_lt : OpR X (compareOp .Lt) (rI0 fun i j => .bl (decide (i < j))) := opB0 fun _ _ _ _ _ _ _ q => lt_int q
theorem op_le : OpR X (compareOp .LtE) (rI0 fun i j => .bl (decide (i ≤ j))) := opB0 fun _ _ _ _ _ _ _ q => le_int q
theorem op_gt : OpR X (compareOp .Gt) (rI0 fun i j => .bl (decide (j < i))) := opB0 fun _ _ _ _ _ _ _ q => gt_int q
theorem op_in_str : OpR X (compareOp .In) (fun x y H Q => ∃ i j, x = .str i ∧ y = .str j ∧ Q (.bl (!(Builtin.Str.occurrences j i 0 j.length 1).isEmpty)) H) := by
  intro pins s σ H x y v u Q I rx ry h
  obtain ⟨i, j, rfl, rfl, q⟩ := h
  obtain ⟨t, rfl⟩ := rx
  obtain ⟨t', rfl⟩ := ry
  exact in_str (fin_bl I q rfl)


theorem op_notin_str : OpR X (compareOp .NotIn) (fun x y H Q => ∃ i j, x = .str i ∧ y = .str j ∧ Q (.bl (!(!(Builtin.Str.occurrences j i 0 j.length 1).isEmpty))) H) := by
  intro pins s σ H x y v u Q I rx ry h
  obtain ⟨i, j, rfl, rfl, q⟩ := h
  obtain ⟨t, rfl⟩ := rx
  obtain ⟨t', rfl⟩ := ry
  exact notIn_str (fin_bl I q rfl)


theorem nomark (b : Expr) {op : CmpOp} (h : op ≠ .In := by decide) (h2 : op ≠ .NotIn := by decide) : behindInMarks op b = false := by
  have e1 : (op == CmpOp.In) = false := by cases op <;> first | rfl | exact absurd rfl h
  have e2 : (op == CmpOp.NotIn) = false := by cases op <;> first | rfl | exact absurd rfl h2
  cases b <;> simp [behindInMarks, e1, e2]
def tTest (t : TE) : TT := fun σ H Q => t σ H fun x H' => ∃ k, x = .bl k ∧ Q k H'
theorem pt_cmpR {op : CmpOp} {r : R2} (ho : OpR X (compareOp op) r) (ha : PE X a ta) (hb : PE X b tb) (hm : behindInMarks op b = false) : PT X (.Compare a [op] [b] pos) (tTest (tOp r ta tb)) := by
  intro pins s σ H Q I h
  refine wpAny_isTrue_Compare1 (thn (ha pins s σ H _ I h) fun v s1 ⟨x, H1, I1, r1, q1⟩ => thn (hb pins s1 σ H1 _ I1 q1) fun u s2 ⟨y, H2, I2, r2, q2⟩ =>
    thn (ho pins s2 σ H2 x y v u _ I2 r1 r2 q2) fun c s3 ⟨z, H3, I3, r3, k, e, q3⟩ => ?_) hm
  subst e
  cases r3
  exact wpAny_truthy_bool ⟨H3, I3, q3⟩
def tChain (r r' : R2) (ta tb tc : TE) : TE := fun σ H Q => ta σ H fun x H1 => tb σ H1 fun y H2 => r x y H2 fun z H3 => ∃ k, z = .bl k ∧
  (if k = true then tc σ H3 fun w' H4 => r' y w' H4 Q else Q (.bl false) H3)
theorem pt_chain {op op' : CmpOp} {r r' : R2} (ho : OpR X (compareOp op) r) (ho' : OpR X (compareOp op') r') (ha : PE X a ta) (hb : PE X b tb) (hc : PE X c tc)
    (hm : lastMarks [op, op'] [b, c] = false := by with_unfolding_all rfl) : PT X (.Compare a [op, op'] [b, c] pos) (tTest (tChain r r' ta tb tc)) := by
  intro pins s σ H Q I h
  refine isTrue_chain (thn (ha pins s σ H _ I h) fun v s1 ⟨x, H1, I1, r1, q1⟩ => test_link (thn (hb pins s1 σ H1 _ I1 q1) fun u s2 ⟨y, H2, I2, r2, q2⟩ =>
    thn (ho pins s2 σ H2 x y v u _ I2 r1 r2 q2) fun d s3 ⟨z, H3, I3, r3, k, e, q3⟩ => ?_)) hm
  subst e
  cases r3
  refine wpAny_truthy_bool ?_
  cases k with
  | false =>
    obtain ⟨k', e', q'⟩ := q3
    cases e'
    exact ite_ff ⟨H3, I3, q'⟩
  | true =>
    refine ite_tt (test_last (thn (hc pins s3 σ H3 _ I3 q3) fun w' s4 ⟨z', H4, I4, r4, q4⟩ => thn (ho' pins s4 σ H4 y z' u w' _ I4 r2 r4 q4) fun d' s5 ⟨z2, H5, I5, r5, k2, e2, q5⟩ => ?_))
    subst e2
    cases r5
    exact wpAny_truthy_bool ⟨H5, I5, q5⟩

theorem line63 : (sizeLine : Nat) < 2 ^ 63 := by rw [sizeLine_eq]; decide

theorem op_add_str : OpR X (binaryOp .Add) (fun x y H Q => ∃ i j, x = .str i ∧ y = .str j ∧ i.length + j.length ≤ sizeLine ∧ Q (.str (i ++ j)) H) := by
  intro pins s σ H x y v u Q I rx ry h
  obtain ⟨i, j, rfl, rfl, hz, q⟩ := h
  obtain ⟨t, rfl⟩ := rx
  obtain ⟨t', rfl⟩ := ry
  exact add_str (fun t' tk => ⟨.str (i ++ j), H, I.tok _, ⟨_, rfl⟩, q⟩) hz


theorem vals1 {x : V} {us : List Value} (r : Vals [x] us) : ∃ u, us = [u] ∧ RelV x u := by
  cases r with
  | cons r1 r2 => cases r2; exact ⟨_, rfl, r1⟩
theorem vals2 {x y : V} {us : List Value} (r : Vals [x, y] us) : ∃ u w', us = [u, w'] ∧ RelV x u ∧ RelV y w' := by
  cases r with
  | cons r1 r2 =>
    cases r2 with
    | cons r3 r4 => cases r4; exact ⟨_, _, rfl, r1, r3⟩
theorem call_str_int : CallR X (.type "str") (fun xs H Q => ∃ i, xs = [.int i] ∧ i.natAbs.log2 < 1920 ∧ Q (.str (toString i)) H) := by
  intro pins s σ H xs us Q I r h
  obtain ⟨i, rfl, hz, q⟩ := h
  obtain ⟨u, rfl, t, rfl⟩ := vals1 r
  exact PySem.P.str_of_int hz ⟨.str _, H, I.tok _, ⟨_, rfl⟩, q⟩
end
end L2

namespace L2
open PySem PySem.Spec PyProof.Rows

structure ObjM (h : Heap) (x dx C : Addr) (mA : Str → Option Value) : Prop where
  obj : h.get? x = some (PySem.W.instObj C dx)
  ns : h.Ns1 dx mA
  ne : dx ≠ x

theorem lookIn_ns {h : Heap} {dx : Addr} {mA : Str → Option Value} (n : h.Ns1 dx mA) : ∃ od, h.get? dx = some od ∧ ∀ name, PySem.W.lookIn name od = some (mA name) := by
  obtain ⟨o, es, ep, ho, hd, hk, _, hm⟩ := n
  refine ⟨o, ho, fun name => ?_⟩
  have e := hm name
  unfold nsFind findBy at e
  rw [← Array.find?_toList] at e
  unfold PySem.W.lookIn
  rw [hd]
  dsimp only
  split
  · rename_i y q
    rw [q] at e
    exact congrArg some e
  · rename_i q
    rw [q] at e
    have a : es.toList.any (·.refKey) = false := by
      rw [List.any_eq_false]
      intro y hy
      obtain ⟨z, t, hkey⟩ := hk y (Array.mem_toList_iff.mp hy)
      simp [DictEntry.refKey, hkey]
    have a' : ¬ es.toList.any (·.refKey) = true := by rw [a]; exact Bool.false_ne_true
    rw [if_neg a']
    exact congrArg some e

theorem ObjM.look {h : Heap} {x dx C : Addr} {mA : Str → Option Value} (I : ObjM h x dx C mA) : ∃ od, PySem.W.InstAt h x (PySem.W.instObj C dx) C (some od) ∧ ∀ name, PySem.W.lookIn name od = some (mA name) :=
  let ⟨od, ho, hl⟩ := lookIn_ns I.ns
  ⟨od, ⟨I.obj, rfl, rfl, ho⟩, hl⟩

section
variable {prog : Program} {w : World} {A : Around} {E : Value → Shared → Prop} {s : Shared} {K : PySem.W.Frag} {x dx C f : Addr} {mA : Str → Option Value} {name : Str} {v : Value}





end



section
variable {P : Program} {w : World} {H H' : Hp} {h h' : Heap} {a C dx : Addr} {fs fs' : List (Str × V)}
theorem ins_get (hok : HOk P w H h) (e : H a = some (.ins C dx fs)) : ∃ mA, ObjM h a dx C mA ∧ (∀ f, RelO (fs.lookup f) (mA f)) ∧ PySem.Within mA (fs.map (·.1)) ∧ fs.length ≤ 1000 ∧ H dx = some (.own a) := by
  obtain ⟨d, z, ne, ob, mA, n, r, q⟩ := (show ObjOk P w H h a (.ins C dx fs) from hok a _ e)
  exact ⟨mA, ⟨ob, n, ne⟩, r, q, z, d⟩
end

structure Cls (K : PySem.W.Frag) (C : Addr) : Prop where
  pg : PySem.W.plainGet K C Str.empty = true
  hd : PySem.W.hasDictIn K C = true
  po : PySem.W.plainOver K C = true
  sa : PySem.W.findIn K (.ref C) "__setattr__" = some (some (.builtin "object.__setattr__"))
theorem Cls.get {K : PySem.W.Frag} {C : Addr} (c : Cls K C) (f : Str) : PySem.W.plainGet K C f = true := c.pg

section
variable {X : Cx} {pins : List (Addr × Obj)} {σ : St} {H : Hp} {s : Shared} {a C dx : Addr} {fs : List (Str × V)} {f : Str} {v : V} {A : Around} {E : Value → Shared → Prop}






end


section
variable {X : Cx} {o e value : Expr} {f : Str} {pos pos' tpos : Pos} {ta tv : TE}

end

section
variable {X : Cx} {pins : List (Addr × Obj)} {σ : St} {H : Hp} {s : Shared} {A : Around} {E : Value → Shared → Prop} {Q : Value → Shared → Prop} {c : Value} {b : Bool}
inductive TyOf (K : PySem.W.Frag) (H : Hp) : V → Value → Prop where
  | non : TyOf K H .non (.type "NoneType")
  | bl (x : Bool) : TyOf K H (.bl x) (.type "bool")
  | int (i : Int) : TyOf K H (.int i) (.type "int")
  | str (x : Str) : TyOf K H (.str x) (.type "str")
  | flt (x : UInt64) : TyOf K H (.flt x) (.type "float")
  | lst {a : Addr} {xs : List V} (e : H a = some (.lst xs)) : TyOf K H (.ref a) (.type "list")
  | frz {a : Addr} {o : Obj} {xs : List V} (e : H a = some (.frz o (.lst xs))) : TyOf K H (.ref a) (.type "list")
  | tup {a : Addr} {xs : List V} (e : H a = some (.tup xs)) : TyOf K H (.ref a) (.type "tuple")
  | dK {a : Addr} {kvs : List (Key × V)} (e : H a = some (.dK kvs)) : TyOf K H (.ref a) (.type "dict")
  | dT {a : Addr} {kvs : List (List Key × V)} (e : H a = some (.dT kvs)) : TyOf K H (.ref a) (.type "dict")
  | ins {a C dx : Addr} {fs : List (Str × V)} (e : H a = some (.ins C dx fs)) (cl : Cls K C) (ha : PySem.W.findIn K (.ref C) "__class__" = some (some (.builtin "object.__class__")))
      (hn : PySem.W.specialIn K (.builtin "object.__class__") "__get__" = some (some (.builtin "getset_descriptor.__get__"))) (htk : PySem.W.takesIn K (.builtin "object.__class__") = some true)
      (hm : PySem.W.mroIn K C (.type "object") = some true) : TyOf K H (.ref a) (.ref C)
theorem isinst_ok {x : V} {u t : Value} (I : Inv X pins σ H s) (rx : RelV x u) (ty : TyOf X.K H x t) (e : PySem.W.kitOne X.K t c = some b) (h : ∀ tk, Q (.bool b) { s with toks := tk }) :
    wpAny (model X.prog X.w) A (call (.builtin "isinstance") [u, c]) Q E s := by
  cases ty with
  | non => cases (show u = Value.none from rx); exact PySem.W.kia_one PySem.W.kitx_none I.kIn True.intro e (fun z => nomatch z) h
  | bl y => cases (show u = Value.bool y from rx); exact PySem.W.kia_one PySem.W.kitx_bool I.kIn True.intro e (fun z => nomatch z) h
  | int i => obtain ⟨t, q⟩ := (show ∃ t, u = Value.int i t from rx); cases q; exact PySem.W.kia_one PySem.W.kitx_int I.kIn True.intro e (fun z => nomatch z) h
  | str y => obtain ⟨t, q⟩ := (show ∃ t, u = Value.str y t from rx); cases q; exact PySem.W.kia_one PySem.W.kitx_str I.kIn True.intro e (fun z => nomatch z) h
  | flt y => obtain ⟨t, q⟩ := (show ∃ t, u = Value.float y t from rx); cases q; exact PySem.W.kia_one PySem.W.kitx_float I.kIn True.intro e (fun z => nomatch z) h
  | @lst a xs ea =>
    cases (show u = Value.ref a from rx)
    obtain ⟨_, _, n, _, h1⟩ := (show ObjOk X.prog X.w H s.heap a (.lst xs) from I.hok a _ ea)
    exact PySem.W.kia_one PySem.W.kitx_list I.kIn ⟨_, h1, rfl⟩ e (fun z => nomatch z) h
  | @frz a ob xs ea =>
    cases (show u = Value.ref a from rx)
    obtain ⟨_, _, _, n, _, h1⟩ := (show ObjOk X.prog X.w H s.heap a (.frz ob (.lst xs)) from I.hok a _ ea)
    exact PySem.W.kia_one PySem.W.kitx_list I.kIn ⟨_, h1, rfl⟩ e (fun z => nomatch z) h
  | @tup a xs ea =>
    cases (show u = Value.ref a from rx)
    obtain ⟨_, _, _, p⟩ := (show ObjOk X.prog X.w H s.heap a (.tup xs) from I.hok a _ ea)
    obtain ⟨o, h1, h2, _⟩ := p
    exact PySem.W.kia_one PySem.W.kitx_tuple I.kIn ⟨o, h1, h2⟩ e (fun z => nomatch z) h
  | @dK a kvs ea =>
    cases (show u = Value.ref a from rx)
    obtain ⟨_, _, vs, _, p⟩ := (show ObjOk X.prog X.w H s.heap a (.dK kvs) from I.hok a _ ea)
    obtain ⟨o, es, ep, h1, h2, _⟩ := p
    exact PySem.W.kia_one PySem.W.kitx_dict I.kIn ⟨o, h1, h2.1⟩ e (fun z => nomatch z) h
  | @dT a kvs ea =>
    cases (show u = Value.ref a from rx)
    obtain ⟨_, _, xs, _, o, es, ep, h1, h2, _⟩ := (show ObjOk X.prog X.w H s.heap a (.dT kvs) from I.hok a _ ea)
    exact PySem.W.kia_one PySem.W.kitx_dict I.kIn ⟨o, h1, h2.1⟩ e (fun z => nomatch z) h
  | @ins a C dx fs ea cl ha hn htk hm =>
    cases (show u = Value.ref a from rx)
    obtain ⟨mA, O, _⟩ := ins_get I.hok ea
    obtain ⟨od, J, _⟩ := O.look
    exact PySem.W.kia_one (PySem.W.kitx_own (cl.get _) cl.hd ha hn htk hm) I.kIn J e (fun z => nomatch z) h
end
end L2

namespace L2
open PySem PySem.Spec PyProof.Rows

structure Room (k : Nat) (A : Around) : Prop where
  hd : A.handled = none
  dp : A.depth + 3 * k + 5 < recursionLimit
  un : A.units + 16 * k + 200 < cLine
  gd : A.guards = some []
theorem Room.mono {j k : Nat} {A : Around} (r : Room k A) (h : j ≤ k) : Room j A := ⟨r.hd, by have := r.dp; omega, by have := r.un; omega, by first | exact r.gd | simpa [Around.under, Code.guards, Code.isGuard, pushGuards, guardIds] using r.gd⟩
theorem Room.deeper {k : Nat} {A : Around} (r : Room (k + 1) A) (env : Env) : Room k (A.deeper env) :=
  ⟨r.hd, by have := r.dp; show A.depth + 1 + 3 * k + 5 < _; omega, by have := r.un; show A.units + 3 + 16 * k + 200 < _; omega, by first | exact r.gd | simpa [Around.under, Code.guards, Code.isGuard, pushGuards, guardIds] using r.gd⟩
theorem Room.depth {k : Nat} {A : Around} (r : Room k A) : A.depth < recursionLimit := by have := r.dp; omega
theorem Room.units {k : Nat} {A : Around} (r : Room k A) : A.units + 64 < cLine := by have := r.un; omega

def tNil : TA := fun _ H Q => Q [] H
def tCons (ta : TE) (tr : TA) : TA := fun σ H Q => ta σ H fun x H1 => tr σ H1 fun xs H2 => Q (x :: xs) H2
section
variable {X : Cx} {e : Expr} {es : List Expr} {te : TE} {t : TA} {pos : Pos}
theorem pa_nil : PA X [] tNil := fun _ _ _ _ H Q I h => Calls.spliced_nil ⟨[], H, I, .nil, h⟩
theorem pa_cons (ha : PE X e te) (hr : PA X es t) (hs : starEach (e :: es) X.env = (false, eval e X.env) :: starEach es X.env := by rfl) : PA X (e :: es) (tCons te t) := by
  intro pos pins s σ H Q I h
  rw [hs]
  show wpAny _ _ (spliced ((false, eval e X.env) :: backTo pos (starEach es X.env))) _ _ s
  refine Calls.spliced_cons (thn (ha pins s σ H _ I h) fun u s1 ⟨x, H1, I1, r1, q1⟩ => ?_)
  exact thn (hr pos pins s1 σ H1 _ I1 q1) fun us s2 ⟨xs, H2, I2, r2, q2⟩ => ⟨x :: xs, H2, I2, .cons r1 r2, q2⟩

def tTup (t : TA) : TE := fun σ H Q => t σ H fun xs H1 => xs.length ≤ sizeLine ∧ ∀ p, H1 p = none → Q (.ref p) (upd H1 p (.tup xs))
def tLst (t : TA) : TE := fun σ H Q => t σ H fun xs H1 => xs.length ≤ sizeLine ∧ ∀ p, H1 p = none → Q (.ref p) (upd H1 p (.lst xs))
theorem pe_tup {x1} (h : PA X es t) : PE X (.Tuple es x1 pos) (tTup t) := by
  intro pins s σ H Q I hq
  refine wpAny_Tuple_spliced (thn (h pos pins s σ H _ I hq) fun us s1 ⟨xs, H1, I1, r, z, q⟩ => ⟨by rw [← r.length]; exact z, ?_⟩)
  have hf : H1 s1.heap.objs.size = none := I1.hok.fresh (Nat.le_refl _)
  refine ⟨.ref s1.heap.objs.size, upd H1 s1.heap.objs.size (.tup xs), I1.laid (t' := s1.toks) (fun b u e => Heap.get?_push_of_some _ e) (Nat.le_refl _) ?_, rfl, q _ hf⟩
  exact ⟨z, us, r, ⟨_, Heap.get?_push_size _ rfl, rfl, _, rfl⟩⟩
theorem pe_lst (h : PA X es t) : PE X (.List es pos) (tLst t) := by
  intro pins s σ H Q I hq
  refine wpAny_List_spliced (thn (h pos pins s σ H _ I hq) fun us s1 ⟨xs, H1, I1, r, z, q⟩ => ⟨by rw [← r.length]; exact z, ?_⟩)
  have hf : H1 s1.heap.objs.size = none := I1.hok.fresh (Nat.le_refl _)
  refine ⟨.ref s1.heap.objs.size, upd H1 s1.heap.objs.size (.lst xs), I1.laid (t' := s1.toks) (fun b u e => Heap.get?_push_of_some _ e) (Nat.le_refl _) ?_, rfl, q _ hf⟩
  exact ⟨z, us, 0, r, Heap.get?_push_size _ rfl⟩
end

abbrev Sp := List V → Hp → VK → XK → Prop
abbrev CXT := List Env → Hp → Shared → XK → Value → Shared → Prop

structure Env0 (P : Program) (w : World) (K : PySem.W.Frag) (mg : Str → Option Value) (base : Heap) (A : Around) (outer : List Env) (s : Shared) (H : Hp) : Prop where
  frames : A.frames = some outer
  mod : Mod K mg base
  bs : ∀ b o, base.get? b = some o → s.heap.get? b = some o ∧ H b = none
  bsz : base.objs.size ≤ s.heap.objs.size
  funs : s.heap.FunFrames base outer
  frf : ∀ b ∈ frs outer, H b = none
  hok : HOk P w H s.heap
  bare : AllBare s.gens
def CE (outer : List Env) (P : Program) (w : World) (H : Hp) (s : Shared) (Q : VK) (u : Value) (s' : Shared) : Prop :=
  ∃ v H', s'.os = s.os ∧ AllBare s'.gens ∧ Un (frs outer) [] H H' s.heap s'.heap ∧ HOk P w H' s'.heap ∧ RelV v u ∧ Q v H'
def CR (CX : CXT) (outer : List Env) (P : Program) (w : World) (H : Hp) (s : Shared) (Q : VK) (E : XK) (r : Result) (s' : Shared) : Prop :=
  match r with
  | .ok (.ret u) => CE outer P w H s Q u s'
  | .ok _ => False
  | .error e => CX outer H s E e s'
structure FnOk (P : Program) (w : World) (K : PySem.W.Frag) (mg : Str → Option Value) (base : Heap) (CX : CXT) (k : Nat) (f : Addr) (fd : FuncData) (ps : List Str) (sp : Sp) : Prop where
  len : ∀ vs H Q E, sp vs H Q E → vs.length = ps.length
  run : ∀ (A : Around) (outer : List Env) (s : Shared) (H : Hp) (args : Args) (us : List Value) (vs : List V) (Q : VK) (E : XK), Room k A → Env0 P w K mg base A outer s H → BindsTo s fd args (ps.zip us) → Vals vs us → sp vs H Q E →
    codeAny (model P w) A (.call (.ref f) args) (CR CX outer P w H s Q E) s


section
variable {X : Cx} {pins : List (Addr × Obj)} {σ : St} {H : Hp} {s s' : Shared}
theorem Inv.env0 (I : Inv X pins σ H s) : Env0 X.prog X.w X.K X.mg X.base X.A X.stack s H :=
  ⟨I.ok.frames, I.ok.mod, I.bs, Nat.le_trans I.ok.bsz I.sz, I.stack, I.stkFree, I.hok, I.bare⟩
theorem Inv.after {Q : VK} {u : Value} (I : Inv X pins σ H s) (h : CE X.stack X.prog X.w H s Q u s') : EP X pins σ Q u s' := by
  obtain ⟨v, H', os, bare, un, hok, r, q⟩ := h
  obtain ⟨hh, g, d, t, os'⟩ := s'
  obtain rfl : os' = s.os := os
  exact ⟨v, H', I.call (h' := hh) (g' := g) (d' := d) (t' := t) (ch := []) un hok bare (fun b z => absurd z (by simp)), r, q⟩
end

def tCall (sp : Sp) (dvs : List V) (E : XK) (t : TA) : TE := fun σ H Q => t σ H fun vs H1 => sp (vs ++ dvs) H1 Q E

def Binds (K : PySem.W.Frag) (fd : FuncData) (ps : List Str) (ds : List Value) : Prop :=
  ∀ (s : Shared) (us : List Value), K.In s.heap → (us ++ ds).length = ps.length → BindsTo s fd ⟨us, []⟩ (ps.zip (us ++ ds))
theorem Binds.all {K : PySem.W.Frag} {fd : FuncData} {ps : List Str} (h : ∀ us : List Value, us.length = ps.length → bindArgs fd ⟨us, []⟩ = pure (ps.zip us)) : Binds K fd ps [] := fun s us _ hl => by
  rw [List.append_nil] at hl ⊢
  exact .of_eq (h us hl)

def Passes (CX : CXT) (X : Cx) (E : XK) : Prop := ∀ (pins : List (Addr × Obj)) (σ : St) (H : Hp) (s : Shared) (e : Value) (s' : Shared), Inv X pins σ H s → CX X.stack H s E e s' → X.xe e s'

section
variable {X : Cx} {CX : CXT} {k : Nat} {f C : Addr} {fd : FuncData} {ps : List Str} {sp : Sp} {dvs : List V} {ds : List Value} {E : XK} {x m : Str} {p pos apos : Pos} {e o : Expr} {es : List Expr} {ta : TE} {t : TA}

theorem run_fn {pins : List (Addr × Obj)} {σ : St} {H : Hp} {s : Shared} {Q : VK} {us : List Value} {vs : List V} (F : FnOk X.prog X.w X.K X.mg X.base CX k f fd ps sp) (hr : Room k X.A) (hb : Binds X.K fd ps ds) (hd : Vals dvs ds) (hx : Passes CX X E)
    (I : Inv X pins σ H s) (r : Vals vs us) (h : sp (vs ++ dvs) H Q E) : wpAny (model X.prog X.w) X.A (call (.ref f) us) (EP X pins σ Q) X.xe s := by
  have r2 : Vals (vs ++ dvs) (us ++ ds) := r.append hd
  have hl : (us ++ ds).length = ps.length := by rw [← r2.length]; exact F.len _ _ _ _ h
  refine wpAny_call (codeAny_mono (F.run X.A X.stack s H ⟨us, []⟩ (us ++ ds) (vs ++ dvs) Q E hr I.env0 (hb s us I.kIn hl) r2 h) fun r s' hq => ?_)
  cases r with
  | error e => exact hx pins σ H s e s' I hq
  | ok fl =>
    cases fl with
    | ret u => exact I.after hq
    | next => exact False.elim hq
    | brk => exact False.elim hq
    | cont => exact False.elim hq

theorem pe_call (F : FnOk X.prog X.w X.K X.mg X.base CX k f fd ps sp) (hr : Room k X.A) (hg : Gl X x) (hm : X.mg x = some (.ref f)) (hk : PySem.W.keepIn X.K (.ref f) = true) (hb : Binds X.K fd ps ds) (hd : Vals dvs ds) (hx : Passes CX X E)
    (ha : PA X (e :: es) t) (hdb : (x == ("__debug__" : Str)) = false := by decide) (he : starEach (e :: es) X.env = (false, eval e X.env) :: starEach es X.env := by rfl) (hpl : (backTo pos (starEach es X.env)).any (·.1) = false := by rfl) :
    PE X (.Call (.Name x p) (e :: es) [] pos) (tCall sp dvs E t) := by
  intro pins s σ H Q I h
  refine wpAny_Call_Name_kw (ld_glob I hg hm ?_ hdb)
  refine PySem.W.callWith_K (h₀ := X.base) I.ok.mod.kin hk (thn (ha pos pins s σ H _ I h) fun us s1 ⟨vs, H1, I1, r, q⟩ => ⟨I1.kIn, ?_⟩) he hpl
  exact run_fn F hr hb hd hx I1 r q



end

section
variable {X : Cx} {CX : CXT} {k : Nat} {f C : Addr} {fd : FuncData} {ps ks : List Str} {sp : Sp} {E : XK} {x m : Str} {p pos apos kpos : Pos} {e o : Expr} {es : List Expr} {kws : List Keyword} {te ta : TE} {t tk : TA} {nm : Option Str}

variable {g : List Value → List Value → List Value} {gV : List V → List V → List V}
end

structure FnScope (N P : List Str) (sc : Scope) : Prop where
  kind : sc.kind = .function
  co : sc.isCoroutine = false
  gen : sc.isGenerator = false
  nd : N.Nodup
  pre : N.take P.length = P
  par : ∀ x ∈ P, sc.names.lookup x = some .local ∨ sc.names.lookup x = some .cell
  nofree : ∀ y ∈ sc.names, y.2 ≠ .free

theorem bindL_out {kindOf : Str → Option NameKind} {x : Str} : ∀ {binds : List (Str × Value)} {m : Str → Option Value}, (∀ v, (x, v) ∉ binds) → bindL kindOf binds m x = m x
  | [], _, _ => rfl
  | (n, v) :: r, m, h => by
    unfold bindL
    rw [bindL_out fun w hw => h w (List.mem_cons_of_mem _ hw)]
    split
    · have : x ≠ n := by rintro rfl; exact h v List.mem_cons_self
      simp [this]
    · rfl
theorem bindC_out {kindOf : Str → Option NameKind} {x : Str} : ∀ {binds : List (Str × Value)} {m : Str → Option Value}, (∀ v, (x, v) ∉ binds) → bindC kindOf binds m x = m x
  | [], _, _ => rfl
  | (n, v) :: r, m, h => by
    unfold bindC
    rw [bindC_out fun w hw => h w (List.mem_cons_of_mem _ hw)]
    split
    · rfl
    · have : x ≠ n := by rintro rfl; exact h v List.mem_cons_self
      simp [this]
theorem bindL_get {kindOf : Str → Option NameKind} {x : Str} {v : Value} : ∀ {P : List Str} {vs : List Value} {i : Nat} {m : Str → Option Value}, P.Nodup → P[i]? = some x → vs[i]? = some v → kindOf x = some .local →
    bindL kindOf (P.zip vs) m x = some v
  | [], _, _, _, _, h, _, _ => by simp at h
  | _ :: _, [], _, _, _, _, h, _ => by simp at h
  | p :: P, w :: vs, 0, m, nd, h1, h2, hk => by
    simp at h1 h2; subst h1; subst h2
    show bindL kindOf ((p, w) :: P.zip vs) m p = _
    unfold bindL
    rw [bindL_out fun v hv => (List.nodup_cons.mp nd).1 (List.of_mem_zip hv).1, if_pos hk]
    simp
  | p :: P, w :: vs, i + 1, m, nd, h1, h2, hk => by
    show bindL kindOf ((p, w) :: P.zip vs) m x = _
    unfold bindL
    exact bindL_get (i := i) (List.nodup_cons.mp nd).2 (by simpa using h1) (by simpa using h2) hk
theorem bindC_get {kindOf : Str → Option NameKind} {x : Str} {v : Value} : ∀ {P : List Str} {vs : List Value} {i : Nat} {m : Str → Option Value}, P.Nodup → P[i]? = some x → vs[i]? = some v → kindOf x ≠ some .local →
    bindC kindOf (P.zip vs) m x = some v
  | [], _, _, _, _, h, _, _ => by simp at h
  | _ :: _, [], _, _, _, _, h, _ => by simp at h
  | p :: P, w :: vs, 0, m, nd, h1, h2, hk => by
    simp at h1 h2; subst h1; subst h2
    show bindC kindOf ((p, w) :: P.zip vs) m p = _
    unfold bindC
    rw [bindC_out fun v hv => (List.nodup_cons.mp nd).1 (List.of_mem_zip hv).1, if_neg hk]
    simp
  | p :: P, w :: vs, i + 1, m, nd, h1, h2, hk => by
    show bindC kindOf ((p, w) :: P.zip vs) m x = _
    unfold bindC
    exact bindC_get (i := i) (List.nodup_cons.mp nd).2 (by simpa using h1) (by simpa using h2) hk

def start (N : List Str) (vs : List V) : St := vs.map some ++ List.replicate (N.length - vs.length) none

def cxOf (CX : CXT) (P : Program) (w : World) (K : PySem.W.Frag) (mg : Str → Option Value) (base : Heap) (N : List Str) (qual : Str) (scope : Scope) (f : Addr) (cd : Value) (A : Around) (outer : List Env) (s : Shared) (H : Hp) (E : XK) : Cx where
  prog := P
  w := w
  K := K
  mg := mg
  base := base
  A := A.deeper (envOfC qual scope s.heap.objs.size f cd)
  N := N
  s₀ := s
  H₀ := H
  env := envOfC qual scope s.heap.objs.size f cd
  outer := outer
  stack := envOfC qual scope s.heap.objs.size f cd :: outer
  ex := []
  calm := true
  fn := fun _ => true
  pn := []
  xe := fun e s' => wpAny (model P w) (A.deeper (envOfC qual scope s.heap.objs.size f cd)) (leaving (envOfC qual scope s.heap.objs.size f cd) e) (fun _ s'' => CX outer H s E e s'') (fun e' s'' => CX outer H s E e' s'') s'

theorem cell_has {sc : Scope} {n : Nat} {x : Str} (h : sc.names.lookup x = some .cell) : ∃ c, (cellsFrom n sc.names []).lookup x = some c := by
  have q := PySem.W.cellsFrom_some sc.names n [] (.inl h)
  exact Option.isSome_iff_exists.mp q

theorem inv_start {CX : CXT} {P : Program} {w : World} {K : PySem.W.Frag} {mg : Str → Option Value} {base : Heap} {N ps : List Str} {qual : Str} {scope : Scope} {f : Addr} {cd : Value} {A : Around} {outer : List Env} {s s1 : Shared} {H : Hp} {E : XK} {us : List Value} {vs : List V}
    (S : FnScope N ps scope) (hd : A.handled = none) (e0 : Env0 P w K mg base A outer s H) (hl : vs.length = ps.length) (r : Vals vs us)
    (x : InCallC s s.heap.objs.size (bindL (envOfC qual scope s.heap.objs.size f cd).kindOf (ps.zip us) fun _ => none) (cellsFrom (s.heap.objs.size + 1) scope.names []) (bindC (envOfC qual scope s.heap.objs.size f cd).kindOf (ps.zip us) fun _ => none) s1) :
    Inv (cxOf CX P w K mg base N qual scope f cd A outer s H E) [] (start N vs) H s1 := by
  have hpl : ps.length ≤ N.length := by have := congrArg List.length S.pre; rw [List.length_take] at this; omega
  obtain ⟨h1, tk, rfl, hk⟩ := x.done
  have noA : ∀ b : Addr, b ∉ (cxOf CX P w K mg base N qual scope f cd A outer s H E).ex := fun b z => absurd (show b ∈ ([] : List Addr) from z) (by simp)
  refine ⟨⟨e0.mod, S.kind, rfl, rfl, Nat.le_refl _, fun y z c h1 h2 => ?_, fun y hy => ?_, fun y c _ h => ?_, fun _ => hd, Around.frames_deeper e0.frames, .inr ⟨rfl, rfl⟩, fun b z => absurd z (noA b), e0.bs, e0.bsz, fun b _ _ => noA b, fun b z => absurd z (noA b), e0.funs, e0.frf⟩,
    rfl, e0.bare, Un.kept hk, ⟨_, x.toInCall.ns, fun i y v h1 h2 h3 => ?_⟩, fun y c h => ⟨_, x.cell y c h⟩, e0.hok.fresh (Nat.le_refl _), fun y c h => ?_, fun p hp => absurd (show p ∈ ([] : List (Addr × Obj)) from hp) (by simp), e0.hok.kept hk, ?_⟩
  · exact name_of_addr x.apart (PySem.mem_of_lookup h1) (PySem.mem_of_lookup h2)
  · have hy : scope.names.lookup y = some .cell ∨ scope.names.lookup y = some .free := hy
    rcases hy with hy | hy
    · exact cell_has hy
    · exact absurd rfl (S.nofree _ (PySem.mem_of_lookup hy))
  · exact Nat.le_of_lt (x.above y c (PySem.mem_of_lookup h))
  · have hi : i < vs.length := by
      unfold start at h2
      by_cases hi : i < vs.length
      · exact hi
      · rw [List.getElem?_append_right (by simpa using hi)] at h2
        rw [List.getElem?_replicate] at h2
        split at h2 <;> cases h2
    have ha : vs[i]? = some v := by
      unfold start at h2
      rw [List.getElem?_append_left (by simpa using hi), List.getElem?_map] at h2
      cases e : vs[i]? with
      | none => rw [e] at h2; cases h2
      | some a => rw [e] at h2; cases h2; rfl
    obtain ⟨u, hu, rv⟩ := r.get ha
    have hp : ps[i]? = some y := by
      rw [← S.pre, List.getElem?_take_of_lt (by omega)]; exact h1
    have ndP : ps.Nodup := by rw [← S.pre]; exact S.nd.sublist (List.take_sublist _ _)
    refine ⟨u, rv, ?_⟩
    rcases S.par y (List.mem_of_getElem? hp) with k | k
    · exact .inl ⟨k, bindL_get ndP hp hu k⟩
    · obtain ⟨c, e⟩ := cell_has (n := s.heap.objs.size + 1) k
      refine .inr ⟨.inl k, c, e, ?_⟩
      have q := x.cell y c e
      rw [bindC_get ndP hp hu (by show scope.names.lookup y ≠ _; rw [k]; decide)] at q
      exact q
  · exact e0.hok.fresh (Nat.le_of_lt (x.above y c (PySem.mem_of_lookup h)))
  · unfold start
    show _ = N.length
    rw [List.length_append, List.length_map, List.length_replicate]
    omega

theorem fn_of {CX : CXT} {P : Program} {w : World} {K : PySem.W.Frag} {mg : Str → Option Value} {base : Heap} {k : Nat} {f : Addr} {name qual : Str} {params : Arguments} {body : List Stmt} {scope : Scope} {dV kV doc pm cdv ct oc : Value} {an od : Option Addr}
    {osl : Array (Option Value)} {N ps : List Str} {sp : Sp} (lk : K.lookup f = some ⟨oc, od, .func (PySem.W.fnOf name qual params body scope dV kV doc pm an cdv ct), osl⟩) (hcd : PySem.W.codeIn K cdv qual = true) (S : FnScope N ps scope)
    (len : ∀ vs H Q E, sp vs H Q E → vs.length = ps.length)
    (hbody : ∀ (A : Around) (outer : List Env) (s : Shared) (H : Hp) (vs : List V) (Q : VK) (E : XK), Room k (A.deeper (envOfC qual scope s.heap.objs.size f cdv)) → sp vs H Q E →
      ∃ t, PSs (cxOf CX P w K mg base N qual scope f cdv A outer s H E) body t ∧ t { nx := fun _ H' => Q .non H', rt := Q } (start N vs) H) :
    FnOk P w K mg base CX (k + 1) f (PySem.W.fnOf name qual params body scope dV kV doc pm an cdv ct) ps sp := by
  refine ⟨len, fun A outer s H args us vs Q E hr e0 hb r hsp => ?_⟩
  have hl := len _ _ _ _ hsp
  have KX : K.In s.heap := e0.mod.kin.keeps fun b o e => (e0.bs b o e).1
  have lim : s.heap.NoLimit := e0.mod.nolimit.keeps fun b o e => (e0.bs b o e).1
  have hkind : ∀ y ∈ ps.zip us, scope.names.lookup y.1 = some .local ∨ (scope.names.lookup y.1 = some .cell ∧ ((cellsFrom (s.heap.objs.size + 1) scope.names []).lookup y.1).isSome = true) := fun ⟨n, v⟩ hy => by
    rcases S.par n (List.of_mem_zip hy).1 with q | q
    · exact .inl q
    · exact .inr ⟨q, PySem.W.cellsFrom_some _ _ _ (.inl q)⟩
  refine codeAny_call_function hr.depth (KX _ _ lk) rfl S.co S.gen rfl (PySem.W.codeRec_of KX hcd) (hb _ _ _ _ ?_)
  refine wpAny_newFunctionEnv_cells S.kind hkind fun env he s1 x => ?_
  subst he
  refine ⟨lim.keeps x.toInCall.keep, codeAny_func ?_⟩
  obtain ⟨t, ht, hq⟩ := hbody A outer s H vs Q E (hr.deeper _) hsp
  have I : Inv (cxOf CX P w K mg base N qual scope f cdv A outer s H E) [] (start N vs) H s1 := inv_start S hr.hd e0 hl r x
  refine wpAny_mono (ht [] s1 (start N vs) H _ I hq) (fun fl s' hs => ?_) fun e s' hs => hs
  have fin : ∀ {σ' : St} {H' : Hp} {v : V} {u : Value}, Inv (cxOf CX P w K mg base N qual scope f cdv A outer s H E) [] σ' H' s' → RelV v u → Q v H' → CE outer P w H s Q u s' :=
    fun {σ' H' v u} J rv q => ⟨v, H', J.os, J.bare, J.base, J.hok, rv, q⟩
  cases fl with
  | ret u =>
    obtain ⟨v, σ', H', J, rv, q⟩ := hs
    exact fin J rv q
  | next =>
    obtain ⟨σ', H', J, q⟩ := hs
    exact fin (v := V.non) (u := Value.none) J rfl q
  | brk =>
    obtain ⟨_, _, _, q⟩ := hs
    exact False.elim q
  | cont =>
    obtain ⟨_, _, _, q⟩ := hs
    exact False.elim q
end L2

namespace L2
open PySem PySem.Spec PyProof.Rows
section
variable {X : Cx} {x : Str} {p pos : Pos} {e : Expr} {es : List Expr} {t : TA} {id T : String} {r : List V → Hp → VK → Prop}

def tCB (r : List V → Hp → VK → Prop) (t : TA) : TE := fun σ H Q => t σ H fun vs H1 => r vs H1 Q
theorem pe_callB (hc : CallR X (.builtin id) r) (hg : Gl X x) (hm : X.mg x = none) (hv : bootBuiltins x = some (.builtin id)) (ha : PA X (e :: es) t) (hn : x ≠ "__name__" := by decide) (hdb : (x == ("__debug__" : Str)) = false := by decide)
    (he : starEach (e :: es) X.env = (false, eval e X.env) :: starEach es X.env := by rfl) (hpl : (backTo pos (starEach es X.env)).any (·.1) = false := by rfl) : PE X (.Call (.Name x p) (e :: es) [] pos) (tCB r t) := by
  intro pins s σ H Q I h
  refine wpAny_Call_Name_kw (ld_blt I hg hm hv ?_ hn hdb)
  exact PyProof.Rows.callWith_builtin1 (thn (ha pos pins s σ H _ I h) fun us s1 ⟨vs, H1, I1, r1, q1⟩ => hc pins s1 σ H1 vs us Q I1 r1 q1) he hpl
theorem pe_callTy (hc : CallR X (.type T) r) (hg : Gl X x) (hm : X.mg x = none) (hv : bootBuiltins x = some (.type T)) (ha : PA X (e :: es) t) (hn : x ≠ "__name__" := by decide) (hdb : (x == ("__debug__" : Str)) = false := by decide)
    (he : starEach (e :: es) X.env = (false, eval e X.env) :: starEach es X.env := by rfl) (hpl : (backTo pos (starEach es X.env)).any (·.1) = false := by rfl) : PE X (.Call (.Name x p) (e :: es) [] pos) (tCB r t) := by
  intro pins s σ H Q I h
  refine wpAny_Call_Name_kw (ld_blt I hg hm hv ?_ hn hdb)
  exact PyProof.Rows.callWith_type1 (thn (ha pos pins s σ H _ I h) fun us s1 ⟨vs, H1, I1, r1, q1⟩ => hc pins s1 σ H1 vs us Q I1 r1 q1) he hpl
end
end L2

namespace HT
open PySem PyProof.Rows



section
open PySem.SeqAt
open PySem.AutoSeq1 (wpAny_loadPart')
open PySem.MeetsSeq PySem.MeetsSeq2 PySem.MeetsSeq3

end

section
variable {prog : Program} {w : World} {A : Around} {E : Value → Shared → Prop} {s : Shared}



def sIx (n d : Nat) : Option Int → Nat
  | none => d
  | some v => if v < 0 then (v + (n : Int)).toNat else min v.toNat n
theorem sIx_none (n d : Nat) : sIx n d none = d := rfl
theorem sIx_nat (n d k : Nat) : sIx n d (some (k : Int)) = min k n := by
  show (if (k : Int) < 0 then ((k : Int) + (n : Int)).toNat else min (k : Int).toNat n) = min k n
  rw [if_neg (by omega), Int.toNat_natCast]

end
end HT

namespace L2
open PySem PySem.Spec PyProof.Rows

abbrev TO := St → Hp → (Option Int → Hp → Prop) → Prop
def PO (X : Cx) (e : Option Expr) (t : TO) : Prop :=
  ∀ (pins : List (Addr × Obj)) (s : Shared) (σ : St) (H : Hp) (Q : Option Int → Hp → Prop), Inv X pins σ H s → t σ H Q →
    wpAny (model X.prog X.w) X.A (evalPart e X.env) (fun u s' => ∃ o H', Inv X pins σ H' s' ∧ IsPart u o ∧ Q o H') X.xe s
def tNoPart : TO := fun _ H Q => Q none H
def tPart (t : TE) : TO := fun σ H Q => t σ H fun x H1 => ∃ i, x = .int i ∧ Q (some i) H1

theorem intsAre_of {ns : List Int} : ∀ {us : List Value}, Vals (ns.map V.int) us → IntsAre us ns := by
  induction ns with
  | nil => intro us r; rw [List.map_nil] at r; cases r; exact .nil
  | cons n ns ih =>
    intro us r
    rw [List.map_cons] at r
    cases r with
    | cons r1 r2 =>
      obtain ⟨t, e⟩ := r1
      subst e
      exact .cons n t (ih r2)

section
variable {X : Cx} {e : Expr} {te : TE} {lo hi : Option Expr} {tl th : TO} {pos p2 : Pos}

theorem po_none : PO X none tNoPart := by
  intro pins s σ H Q I h
  rw [evalPart_none]
  exact wpAny_pure ⟨none, H, I, .none, h⟩
theorem po_some (h : PE X e te) : PO X (some e) (tPart te) := by
  intro pins s σ H Q I hw
  rw [evalPart_some]
  refine thn (h pins s σ H _ I hw) fun u s1 ⟨x, H1, I1, r1, q1⟩ => ?_
  obtain ⟨i, rfl, q⟩ := q1
  obtain ⟨t, rfl⟩ := r1
  exact ⟨some i, H1, I1, .int i t, q⟩

def SlR (X : Cx) (r : V → Option Int → Option Int → Hp → VK → Prop) : Prop :=
  ∀ (pins : List (Addr × Obj)) (s : Shared) (σ : St) (H : Hp) (x : V) (v vl vu : Value) (lo hi : Option Int) (sl : Addr) (Q : VK), Inv X pins σ H s → RelV x v → s.heap.IsSliceOf sl vl vu .none → IsPart vl lo → IsPart vu hi → r x lo hi H Q →
    ∃ T id, typeLookup (.type T) "__getitem__" = pure (some (.builtin id)) ∧ s.TypeIs v T ∧ wpAny (model X.prog X.w) X.A (getItem v (.ref sl)) (EP X pins σ Q) X.xe s
def tSl (r : V → Option Int → Option Int → Hp → VK → Prop) (te : TE) (tl th : TO) : TE := fun σ H Q => te σ H fun x H1 => tl σ H1 fun l H2 => th σ H2 fun u H3 => r x l u H3 Q
theorem pe_slice {r : V → Option Int → Option Int → Hp → VK → Prop} (hr : SlR X r) (he : PE X e te) (hl : PO X lo tl) (hu : PO X hi th) : PE X (.Subscript e (.Slice lo hi none p2) pos) (tSl r te tl th) := by
  intro pins s σ H Q I h
  refine Subscript_ (thn (he pins s σ H _ I h) fun v s1 ⟨x, H1, I1, r1, q1⟩ => ?_)
  refine wpAny_Slice (thn (hl pins s1 σ H1 _ I1 q1) fun vl s2 ⟨l, H2, I2, pl, q2⟩ => thn (hu pins s2 σ H2 _ I2 q2) fun vu s3 ⟨u, H3, I3, pu, q3⟩ => ?_)
  rw [evalPart_none]
  refine wpAny_pure ?_
  have I4 : Inv X pins σ H3 { s3 with heap := s3.heap.push { cls := .type "slice", data := .fields #[vl, vu, .none] } } := I3.kept (t' := s3.toks) fun b ob q => Heap.get?_push_of_some _ q
  obtain ⟨T, id, hT, ht, hg⟩ := hr pins { s3 with heap := s3.heap.push { cls := .type "slice", data := .fields #[vl, vu, .none] } } σ H3 x v vl vu l u s3.heap.objs.size Q I4 r1 (Heap.IsSliceOf.new ..) pl pu q3
  show wpAny (model X.prog X.w) X.A (subscriptTail e (.Slice lo hi none p2) v (.ref s3.heap.objs.size)) (EP X pins σ Q) X.xe { s3 with heap := s3.heap.push { cls := .type "slice", data := .fields #[vl, vu, .none] } }
  exact tail_any (ops := [.ref s3.heap.objs.size, v]) ht hT hg (by with_unfolding_all rfl)

def cutV (xs : List V) (lo hi : Option Int) : List V := (xs.drop (HT.sIx xs.length 0 lo)).take (HT.sIx xs.length xs.length hi - HT.sIx xs.length 0 lo)
theorem cutV_length (xs : List V) (lo hi : Option Int) : (cutV xs lo hi).length ≤ xs.length := by
  unfold cutV
  rw [List.length_take, List.length_drop]
  omega

end
end L2

namespace L2
open PySem PySem.Spec PyProof.Rows

def ixN (n : Nat) (i : Int) : Option Nat := if 0 ≤ i then (if i < n then some i.toNat else none) else if -(n : Int) ≤ i then some (i + n).toNat else none
def atI {α : Type} (xs : List α) (i : Int) : Option α := (ixN xs.length i).bind fun j => xs[j]?
theorem ixN_seq {n : Nat} {i : Int} {j : Nat} (h : ixN n i = some j) : seqIndex? i n = some j ∧ j < n ∧ -(n : Int) ≤ i ∧ i < n := by
  unfold ixN at h
  by_cases h0 : 0 ≤ i
  · rw [if_pos h0] at h
    by_cases h1 : i < n
    · rw [if_pos h1] at h
      have e : i.toNat = j := Option.some.inj h
      exact ⟨by rw [seqIndex_of h0 h1, e], by omega, by omega, h1⟩
    · rw [if_neg h1] at h; cases h
  · rw [if_neg h0] at h
    by_cases h1 : -(n : Int) ≤ i
    · rw [if_pos h1] at h
      have e : (i + n).toNat = j := Option.some.inj h
      exact ⟨by rw [seqIndex_neg (by omega) h1, e], by omega, h1, by omega⟩
    · rw [if_neg h1] at h; cases h
theorem atI_get {α : Type} {xs : List α} {i : Int} {v : α} (h : atI xs i = some v) : ∃ j, seqIndex? i xs.length = some j ∧ xs[j]? = some v ∧ j < xs.length ∧ -(xs.length : Int) ≤ i ∧ i < xs.length := by
  unfold atI at h
  cases e : ixN xs.length i with
  | none => rw [e] at h; cases h
  | some j =>
    rw [e] at h
    obtain ⟨h1, h2, h3, h4⟩ := ixN_seq e
    exact ⟨j, h1, h, h2, h3, h4⟩
theorem atI_nat {α : Type} {xs : List α} {j : Nat} {v : α} (h : xs[j]? = some v) : atI xs (j : Int) = some v := by
  have hj : j < xs.length := (List.getElem?_eq_some_iff.mp h).1
  have e : ixN xs.length (j : Int) = some j := by
    unfold ixN
    rw [if_pos (by omega), if_pos (by omega)]; simp
  unfold atI; rw [e]; exact h

def PlainIx (b : Expr) : Prop := ∀ o i, subscripted b false o i = operate [o, i] (getItem o i)
def IxR (X : Cx) (r : R2) : Prop :=
  ∀ (value slice : Expr) (pins : List (Addr × Obj)) (s : Shared) (σ : St) (H : Hp) (x y : V) (v u : Value) (Q : VK), Inv X pins σ H s → RelV x v → RelV y u → r x y H Q →
    subscripted slice false v u = operate [v, u] (getItem v u) → wpAny (model X.prog X.w) X.A (subscriptTail value slice v u) (EP X pins σ Q) X.xe s
def MtR (X : Cx) (id : String) (r : V → List V → Hp → VK → Prop) : Prop :=
  ∀ (pins : List (Addr × Obj)) (s : Shared) (σ : St) (H : Hp) (x : V) (xs : List V) (v : Value) (us : List Value) (Q : VK), Inv X pins σ H s → RelV x v → Vals xs us → r x xs H Q →
    wpAny (model X.prog X.w) X.A (call (.builtin id) (v :: us)) (EP X pins σ Q) X.xe s
section
variable {X : Cx} {a b : Expr} {ta tb : TE} {pos : Pos}
theorem pe_ix {r : R2} (hr : IxR X r) (ha : PE X a ta) (hb : PE X b tb) (hs : PlainIx b) : PE X (.Subscript a b pos) (tOp r ta tb) := by
  intro pins s σ H Q I h
  exact Subscript_ (binT ha hb I h fun v u s2 x y H2 I2 rx ry q => hr a b pins s2 σ H2 x y v u Q I2 rx ry q (hs _ _))

def rIxL (K : PySem.W.Frag) : R2 := fun x y H Q => ∃ p xs i v, x = .ref p ∧ y = .int i ∧ SqL K H p xs ∧ atI xs i = some v ∧ Q v H
def rIxT (K : PySem.W.Frag) : R2 := fun x y H Q => ∃ p xs i v, x = .ref p ∧ y = .int i ∧ SqT K H p xs ∧ atI xs i = some v ∧ Q v H
def rIxS : R2 := fun x y H Q => ∃ z i c, x = .str z ∧ y = .int i ∧ z.length ≤ sizeLine ∧ atI z.cps.toList i = some c ∧ Q (.str ⟨#[c]⟩) H
theorem ix_list : IxR X (rIxL X.K) := by
  intro value slice pins s σ H x y v u Q I rx ry h hs
  obtain ⟨p, xs, i, z, rfl, rfl, hq, he, q⟩ := h
  cases rx
  obtain ⟨t, rfl⟩ := ry
  obtain ⟨its, r, pl, hz⟩ := I.list hq
  obtain ⟨j, h1, h2, h3, h4, h5⟩ := atI_get he
  obtain ⟨w, ew, rw'⟩ := r.get h2
  have hl := r.length
  have hn := line63
  have fin : EP X pins σ Q w s := ⟨z, H, I, rw', q⟩
  by_cases h0 : 0 ≤ i
  · have hj : i.toNat = j := by
      rw [seqIndex_of h0 h5] at h1
      exact Option.some.inj h1
    exact item_listR pl.isList h0 (by omega) (by rw [hj]; simpa using ew) fin hs
  · have hj : (i + (its.toArray.size : Int)).toNat = j := by
      rw [seqIndex_neg (by omega) h4] at h1
      rw [List.size_toArray, ← hl]
      exact Option.some.inj h1
    exact subscriptTail_builtinR (x := w) pl.isList.typeIs slot_list_getitem.lookup
      (wpAny_getItem_list_neg (Q := fun r s' => r = w ∧ EP X pins σ Q r s') pl.isList (by omega) (by rw [List.size_toArray] <;> omega) (by omega) (by rw [hj]; simpa using ew) ⟨rfl, fin⟩) hs
theorem ix_tup : IxR X (rIxT X.K) := by
  intro value slice pins s σ H x y v u Q I rx ry h hs
  obtain ⟨p, xs, i, z, rfl, rfl, hq, he, q⟩ := h
  cases rx
  obtain ⟨t, rfl⟩ := ry
  obtain ⟨its, r, pl, hz⟩ := I.tuple hq
  obtain ⟨j, h1, h2, h3, h4, h5⟩ := atI_get he
  obtain ⟨w, ew, rw'⟩ := r.get h2
  have hl := r.length
  have hn := line63
  have fin : EP X pins σ Q w s := ⟨z, H, I, rw', q⟩
  exact subscriptTail_builtinR (x := w) pl.typeIs slot_tuple_getitem.lookup
    (getItem_tuple (j := j) (Q := fun r s' => r = w ∧ EP X pins σ Q r s') pl (by omega) (by omega) (by rw [List.size_toArray, ← hl]; exact h1) (by simpa using ew) ⟨rfl, fin⟩) hs
theorem ix_str : IxR X rIxS := by
  intro value slice pins s σ H x y v u Q I rx ry h hs
  obtain ⟨z, i, c, rfl, rfl, hz, he, q⟩ := h
  obtain ⟨t, rfl⟩ := rx
  obtain ⟨t', rfl⟩ := ry
  obtain ⟨j, h1, h2, h3, h4, h5⟩ := atI_get he
  have hl : z.cps.toList.length = z.length := by simp [Str.length]
  rw [hl] at h1 h4 h5
  have hn := line63
  exact tail_any (typeIs_str s z t) slot_str_getitem.lookup (getItem_str (c := c) (by
    have e1 : decide (i < -(2 ^ 63 : Int)) = false := decide_eq_false (by omega)
    have e2 : decide (i ≥ 2 ^ 63) = false := decide_eq_false (by omega)
    rw [e1, e2, Bool.or_false]) (by rw [h1]; simpa using h2) ⟨.str ⟨#[c]⟩, H, I.tok _, ⟨_, rfl⟩, q⟩) hs

theorem mapSeq_set (its : List Value) (n j : Nat) (u : Value) : Obj.mapSeq (·.setIfInBounds j u) { cls := .type "list", data := .seq its.toArray n } = { cls := .type "list", data := .seq (its.set j u).toArray n } := by
  simp [Obj.mapSeq]
theorem Inv.lst {pins : List (Addr × Obj)} {σ : St} {H : Hp} {s : Shared} {p : Addr} {xs : List V} (I : Inv X pins σ H s) (h : H p = some (.lst xs)) :
    ∃ (its : List Value) (n : Nat), Vals xs its ∧ s.heap.get? p = some { cls := .type "list", data := .seq its.toArray n } ∧ xs.length ≤ sizeLine := by
  obtain ⟨z, its, n, r, e⟩ := I.hok p _ h
  exact ⟨its, n, r, e, z⟩
theorem Inv.lstUpd {pins : List (Addr × Obj)} {σ : St} {H : Hp} {s : Shared} {p : Addr} {xs ys : List V} {its its' : List Value} {n n' : Nat} {f : Obj → Obj} (I : Inv X pins σ H s) (h : H p = some (.lst xs))
    (ho : s.heap.get? p = some { cls := .type "list", data := .seq its.toArray n }) (hf : f { cls := .type "list", data := .seq its.toArray n } = { cls := .type "list", data := .seq its'.toArray n' }) (r : Vals ys its') (hz : ys.length ≤ sizeLine) (t : Nat) :
    Inv X pins σ (upd H p (.lst ys)) { s with heap := s.heap.update p f, toks := t } := by
  have e : (s.heap.update p f).get? p = some { cls := .type "list", data := .seq its'.toArray n' } := by
    rw [Heap.get?_update_self f ho (by rw [hf] <;> rfl), hf]
  refine I.write (x := p) (e := p) (by rw [h]; trivial) (.inl rfl) (fun b u hb q => (Heap.get?_update_other _ _ (Ne.symm hb)).trans q) ⟨_, e⟩ ?_
  exact ⟨hz, its', n', r, e⟩
def rSetL : V → V → V → Hp → (Hp → Prop) → Prop := fun o i v H Q => ∃ p xs k j, o = .ref p ∧ i = .int k ∧ H p = some (.lst xs) ∧ ixN xs.length k = some j ∧ Q (upd H p (.lst (xs.set j v)))
theorem set_list : PSet X rSetL := by
  intro pins s σ H o i v ov iv u Q I ro ri rv h
  obtain ⟨p, xs, k, j, rfl, rfl, hp, hj, q⟩ := h
  cases ro
  obtain ⟨t, rfl⟩ := ri
  obtain ⟨its, n, r, ho, hz⟩ := I.lst hp
  obtain ⟨h1, h2, h3, h4⟩ := ixN_seq hj
  have hl := r.length
  have hn := line63
  have I' : Inv X pins σ (upd H p (.lst (xs.set j v))) { s with heap := s.heap.update p (Obj.mapSeq (·.setIfInBounds j u)) } :=
    I.lstUpd hp ho (mapSeq_set its n j u) (r.set rv j) (by rw [List.length_set]; exact hz) s.toks
  by_cases h0 : 0 ≤ k
  · have hk : k.toNat = j := by
      rw [seqIndex_of h0 h4] at h1
      exact Option.some.inj h1
    exact PySem.W.ki_setAt ho h0 (by omega) (by rw [List.size_toArray, ← hl]; exact h4) (by rw [hk]; exact ⟨_, I', q⟩)
  · have hk : (k + (its.toArray.size : Int)).toNat = j := by
      rw [seqIndex_neg (by omega) h3] at h1
      rw [List.size_toArray, ← hl]
      exact Option.some.inj h1
    exact PySem.W.ki_setBack ho (by omega) (by rw [List.size_toArray, ← hl]; exact h3) (by omega) (by rw [hk]; exact ⟨_, I', q⟩)

theorem slice_bounds (lo hi : Option Int) (n : Nat) : (sliceBounds lo hi none n).1 = ((HT.sIx n 0 lo : Nat) : Int) ∧ (sliceBounds lo hi none n).2.1 = ((HT.sIx n n hi : Nat) : Int) ∧ (sliceBounds lo hi none n).2.2 = 1 := by
  refine ⟨?_, ?_, rfl⟩
  · cases lo with
    | none => simp [sliceBounds, HT.sIx]
    | some i =>
      simp only [sliceBounds, HT.sIx, Option.getD_none, show (1 : Int) > 0 by decide, if_true]
      by_cases h : i < 0
      · simp only [h, if_true] <;> omega
      · simp only [h, if_false] <;> omega
  · cases hi with
    | none => simp [sliceBounds, HT.sIx]
    | some i =>
      simp only [sliceBounds, HT.sIx, Option.getD_none, show (1 : Int) > 0 by decide, if_true]
      by_cases h : i < 0
      · simp only [h, if_true] <;> omega
      · simp only [h, if_false] <;> omega
theorem slicePick_cut (its : List Value) (lo hi : Option Int) : slicePick its.toArray lo hi none = ((its.drop (HT.sIx its.length 0 lo)).take (HT.sIx its.length its.length hi - HT.sIx its.length 0 lo)).toArray := by
  obtain ⟨h1, h2, h3⟩ := slice_bounds lo hi its.toArray.size
  unfold slicePick
  rw [h1, h2, h3]
  simp only [sliceRange_one, pick_run, List.size_toArray] <;> rfl
def rSlL (K : PySem.W.Frag) : V → Option Int → Option Int → Hp → VK → Prop := fun x lo hi H Q => ∃ a xs, x = .ref a ∧ SqL K H a xs ∧ ∀ p, H p = none → Q (.ref p) (upd H p (.lst (cutV xs lo hi)))
theorem sl_list : SlR X (rSlL X.K) := by
  intro pins s σ H x v vl vu lo hi sl Q I rx hs pl pu h
  obtain ⟨a, xs, rfl, hx, q⟩ := h
  cases rx
  obtain ⟨its, r, ht, hz⟩ := I.list hx
  have hlen := r.length
  refine ⟨"list", _, slot_list_getitem.lookup, ht.isList.typeIs, ?_⟩
  refine wpAny_getItem_list_slice ht.isList hs pl pu .none (by simp) ?_ (by rw [List.size_toArray] <;> omega)
  rw [slicePick_cut, ← hlen]
  refine ⟨.ref s.heap.objs.size, _, I.laid (t' := s.toks) (o := .lst (cutV xs lo hi)) (fun b ob q => Heap.get?_push_of_some _ q) (Nat.le_refl _) ?_, rfl, q _ (I.hok.fresh (Nat.le_refl _))⟩
  exact ⟨Nat.le_trans (cutV_length xs lo hi) hz, _, 0, (r.drop (HT.sIx xs.length 0 lo)).take (HT.sIx xs.length xs.length hi - HT.sIx xs.length 0 lo), Heap.get?_push_size _ rfl⟩


theorem call_len_seq : CallR X (.builtin "len") (fun xs H Q => ∃ p ys, xs = [.ref p] ∧ (SqL X.K H p ys ∨ SqT X.K H p ys) ∧ Q (.int ys.length) H) := by
  intro pins s σ H xs us Q I r h
  obtain ⟨p, ys, rfl, hq, q⟩ := h
  obtain ⟨u, rfl, rx⟩ := vals1 r
  cases rx
  have hn := line63
  rcases hq with hq | hq
  · obtain ⟨its, r', pl, hz⟩ := I.list hq
    have hlen := r'.length
    exact Calls.call_len_list pl.isList (by simp only [List.size_toArray] <;> omega) ⟨.int ys.length, H, I.tok _, ⟨s.toks + 1, by rw [List.size_toArray, hlen]⟩, q⟩
  · obtain ⟨its, r', pl, hz⟩ := I.tuple hq
    have hlen := r'.length
    exact len_tuple pl (by simp only [List.size_toArray] <;> omega) ⟨.int ys.length, H, I.tok _, ⟨s.toks + 1, by rw [List.size_toArray, hlen]⟩, q⟩
theorem call_len_str : CallR X (.builtin "len") (fun xs H Q => ∃ z, xs = [.str z] ∧ z.length ≤ sizeLine ∧ Q (.int z.length) H) := by
  intro pins s σ H xs us Q I r h
  obtain ⟨z, rfl, hz, q⟩ := h
  obtain ⟨u, rfl, t, rfl⟩ := vals1 r
  have hn := line63
  exact len_str (by omega) ⟨.int z.length, H, I.tok _, ⟨_, rfl⟩, q⟩
theorem call_list_of : CallR X (.type "list") (fun xs H Q => ∃ p ys, xs = [.ref p] ∧ (SqL X.K H p ys ∨ SqT X.K H p ys) ∧ ∀ l, H l = none → Q (.ref l) (upd H l (.lst ys))) := by
  intro pins s σ H xs us Q I r h
  obtain ⟨p, ys, rfl, hq, q⟩ := h
  obtain ⟨u, rfl, rx⟩ := vals1 r
  cases rx
  have fin : ∀ (its : List Value), Vals ys its → ys.length ≤ sizeLine → ∀ (h' : Heap) (c' : Nat), (∀ b o', s.heap.get? b = some o' → h'.get? b = some o') →
      h'.get? s.heap.objs.size = some { cls := .type "list", dict := none, data := .seq its.toArray c', slots := #[] } → EP X pins σ Q (.ref s.heap.objs.size) { s with heap := h' } := fun its r' hz h' c' kp e =>
    ⟨.ref s.heap.objs.size, _, I.laid (t' := s.toks) kp (Nat.le_refl _) (show ObjOk X.prog X.w _ h' _ (.lst ys) from ⟨hz, its, c', r', e⟩), rfl, q _ (I.hok.fresh (Nat.le_refl _))⟩
  rcases hq with hq | hq
  · obtain ⟨its, r', pl, hz⟩ := I.list hq
    have hlen := r'.length
    obtain ⟨o, ho, hc, n, hd⟩ := pl.isList
    exact call_list_seq p (.inl rfl) ho hc hd (fun h' c' kp e => fin its r' hz h' c' kp e) (by simp only [List.size_toArray] <;> omega)
  · obtain ⟨its, r', pl, hz⟩ := I.tuple hq
    have hlen := r'.length
    obtain ⟨o, ho, hc, n, hd⟩ := pl
    exact call_list_seq p (.inr rfl) ho hc hd (fun h' c' kp e => fin its r' hz h' c' kp e) (by simp only [List.size_toArray] <;> omega)

def tyV (K : PySem.W.Frag) (T : String) (x : V) (H : Hp) : Prop := match x with
  | .str _ => T = "str"
  | .int _ => T = "int"
  | .ref p => (T = "list" ∧ ∃ xs, SqL K H p xs) ∨ (T = "tuple" ∧ ∃ o, K.lookup p = some o ∧ o.cls = .type "tuple" ∧ o.dict = none) ∨
      (T = "dict" ∧ ((∃ kvs, H p = some (.dK kvs)) ∨ ∃ kvs, H p = some (.dT kvs))) ∨ (T = "set" ∧ ∃ S n, H p = some (.set S n))
  | _ => False
theorem tyV_is {pins : List (Addr × Obj)} {σ : St} {H : Hp} {s : Shared} {T : String} {x : V} {v : Value} (I : Inv X pins σ H s) (r : RelV x v) (ty : tyV X.K T x H) :
    s.TypeIs v T ∧ ∀ a, v = .ref a → ∃ ob, s.heap.get? a = some ob ∧ ob.dict = none := by
  cases x with
  | str z =>
    obtain ⟨t, rfl⟩ := r
    cases (show T = "str" from ty)
    exact ⟨typeIs_str s z t, fun _ e => nomatch e⟩
  | int i =>
    obtain ⟨t, rfl⟩ := r
    cases (show T = "int" from ty)
    exact ⟨typeIs_int s i t, fun _ e => nomatch e⟩
  | ref p =>
    cases r
    rcases ty with ⟨rfl, xs, hq⟩ | ⟨rfl, o, hk, hc, hd⟩ | ⟨rfl, hk⟩ | ⟨rfl, S, n, hk⟩
    · obtain ⟨its, _, pl, _⟩ := I.list hq
      refine ⟨pl.isList.typeIs, fun a e => ?_⟩
      cases e
      obtain ⟨o, n, e, c, hd, _⟩ := pl
      exact ⟨o, e, hd⟩
    · refine ⟨⟨o, I.kIn p o hk, hc⟩, fun a e => ?_⟩
      cases e
      exact ⟨o, I.kIn _ o hk, hd⟩
    · have z : ∃ o, s.heap.get? p = some o ∧ o.ExactDict := by
        rcases hk with ⟨kvs, hk⟩ | ⟨kvs, hk⟩
        · obtain ⟨_, _, _, _, o, _, _, e, ex, _⟩ := I.hok p _ hk
          exact ⟨o, e, ex⟩
        · obtain ⟨_, _, _, _, o, _, _, e, ex, _⟩ := I.hok p _ hk
          exact ⟨o, e, ex⟩
      obtain ⟨o, e, ex⟩ := z
      refine ⟨⟨o, e, ex.1⟩, fun a e2 => ?_⟩
      cases e2
      exact ⟨o, e, ex.2.1⟩
    · obtain ⟨o, _, _, _, e, ex, _⟩ := I.hok p _ hk
      refine ⟨⟨o, e, ex.1⟩, fun a e2 => ?_⟩
      cases e2
      exact ⟨o, e, ex.2.1⟩
  | _ => exact False.elim ty
def tBM0 (K : PySem.W.Frag) (T : String) (r : V → List V → Hp → VK → Prop) (to : TE) : TE := fun σ H Q => to σ H fun x H1 => tyV K T x H1 ∧ r x [] H1 Q
def tBM (K : PySem.W.Frag) (T : String) (r : V → List V → Hp → VK → Prop) (to : TE) (t : TA) : TE := fun σ H Q => to σ H fun x H1 => tyV K T x H1 ∧ t σ H1 fun xs H2 => r x xs H2 Q
variable {o e : Expr} {es : List Expr} {to : TE} {t : TA} {name : Str} {apos cpos : Pos} {T id : String} {r : V → List V → Hp → VK → Prop}
theorem pe_bm0 (pa : PlainAttrs T) (slot : Slot T name id) (hty : typeOf (.builtin id) = pure (.type "method_descriptor")) (hm : MtR X id r) (ho : PE X o to)
    (hbase : attributeBase o name X.env (eval o X.env) = eval o X.env := by rfl) (hline : (apos.endLine == cpos.line) = true := by rfl) : PE X (.Call (.Attribute o name apos) [] [] cpos) (tBM0 X.K T r to) := by
  intro pins s σ H Q I h
  refine wpAny_Call_method0_late hbase hline (thn (ho pins s σ H _ I h) fun v s1 ⟨x, H1, I1, r1, ty, q1⟩ => ?_)
  obtain ⟨h1, h2⟩ := tyV_is I1 r1 ty
  exact ⟨T, id, pa, slot, hty, h1, h2, Calls.callWith_builtin rfl (PySem.evalArgs_none (hm pins s1 σ H1 x [] v [] Q I1 r1 .nil q1))⟩
theorem pe_bm (pa : PlainAttrs T) (slot : Slot T name id) (hty : typeOf (.builtin id) = pure (.type "method_descriptor")) (hm : MtR X id r) (ho : PE X o to) (ha : PA X (e :: es) t)
    (hbase : attributeBase o name X.env (eval o X.env) = eval o X.env := by rfl)
    (hfew : ((backTo cpos (starEach (e :: es) X.env)).all (fun x => !x.1) && (backToKw cpos (keywordEach [] X.env)).all (fun x => x.1.isSome)
      && decide ((e :: es).length + ([] : List Keyword).length + (if ([] : List Keyword).isEmpty then 0 else 1) < 30)) = true := by rfl)
    (hline : (apos.endLine == cpos.line) = true := by rfl) (hs : starEach (e :: es) X.env = (false, eval e X.env) :: starEach es X.env := by rfl) (hplain : (backTo cpos (starEach es X.env)).any (·.1) = false := by rfl) :
    PE X (.Call (.Attribute o name apos) (e :: es) [] cpos) (tBM X.K T r to t) := by
  intro pins s σ H Q I h
  refine wpAny_Call_method_late hbase hfew hline rfl (thn (ho pins s σ H _ I h) fun v s1 ⟨x, H1, I1, r1, ty, q1⟩ => ?_)
  obtain ⟨h1, h2⟩ := tyV_is I1 r1 ty
  refine ⟨T, id, pa, slot, hty, h1, h2, ?_⟩
  have hA := ha cpos pins s1 σ H1 _ I1 q1
  rw [hs] at hA ⊢
  refine Calls.callWith_builtin (by show (false || (backTo cpos (starEach es X.env)).any (·.1)) = false; rw [hplain] <;> rfl) (Calls.evalArgs_plain ?_)
  exact thn hA fun us s2 ⟨vs, H2, I2, r2, q2⟩ => hm pins s2 σ H2 x vs v us Q I2 r1 r2 q2
end
end L2

namespace L2
open PySem PySem.Spec PyProof.Rows

def MtM (X : Cx) (id : String) (r : V → List V → Hp → VK → Prop) : Prop :=
  ∀ (pins : List (Addr × Obj)) (s : Shared) (σ : St) (H : Hp) (x : V) (xs : List V) (v : Value) (us : List Value) (Q : VK), Inv X pins σ H s → RelV x v → Vals xs us → r x xs H Q →
    wpAny (model X.prog X.w) X.A (call (.builtin id) (v :: us)) (EP X pins σ Q) X.xe s

theorem Vals.one : ∀ {x : V} {us : List Value}, Vals [x] us → ∃ u, us = [u] ∧ RelV x u
  | _, _, .cons r .nil => ⟨_, rfl, r⟩
theorem Vals.zero : ∀ {us : List Value}, Vals [] us → us = []
  | _, .nil => rfl
theorem Vals.dropLast {xs : List V} {us : List Value} (h : Vals xs us) : Vals xs.dropLast us.dropLast := by
  induction h with
  | nil => exact .nil
  | cons r t ih =>
    cases t with
    | nil => exact .nil
    | cons q t' => exact .cons r ih
theorem Vals.eraseIdx : ∀ {xs : List V} {us : List Value} (i : Nat), Vals xs us → Vals (xs.eraseIdx i) (us.eraseIdx i)
  | _, _, _, .nil => .nil
  | _, _, 0, .cons _ t => t
  | _, _, i + 1, .cons r t => .cons r (Vals.eraseIdx i t)
theorem Vals.reverse {xs : List V} {us : List Value} (h : Vals xs us) : Vals xs.reverse us.reverse := by
  induction h with
  | nil => exact .nil
  | cons r t ih => rw [List.reverse_cons, List.reverse_cons]; exact Vals.append ih (.cons r .nil)
theorem erase_last {α : Type} (l : List α) : l.eraseIdx (l.length - 1) = l.dropLast := by
  induction l with
  | nil => rfl
  | cons a r ih =>
    cases r with
    | nil => rfl
    | cons b r =>
      have e : (a :: b :: r).length - 1 = ((b :: r).length - 1) + 1 := by
        have h1 : (a :: b :: r).length = r.length + 2 := rfl
        have h2 : (b :: r).length = r.length + 1 := rfl
        omega
      rw [e, List.eraseIdx_cons_succ, ih]
      all_goals rfl
theorem len_erase {α : Type} : ∀ (l : List α) (i : Nat), (l.eraseIdx i).length ≤ l.length
  | [], _ => Nat.le_refl _
  | _ :: _, 0 => Nat.le_succ _
  | _ :: r, i + 1 => Nat.succ_le_succ (len_erase r i)

section
variable {X : Cx} {pins : List (Addr × Obj)} {σ : St} {H : Hp} {s : Shared} {l b : Addr} {xs ys zs : List V}

theorem Inv.lset {its its' : List Value} {n : Nat} {f : Array Value → Array Value} {t' : Nat} (I : Inv X pins σ H s) (hH : H l = some (.lst xs))
    (e : s.heap.get? l = some { cls := .type "list", data := .seq its.toArray n }) (hf : f its.toArray = its'.toArray) (hv : Vals ys its') (hz : ys.length ≤ sizeLine) :
    Inv X pins σ (upd H l (.lst ys)) { s with heap := s.heap.update l (Obj.mapSeq f), toks := t' } := by
  have q := PySem.IsL.update e f
  rw [hf] at q
  refine I.write (x := l) (e := l) (by rw [hH]; exact trivial) (.inl rfl) (fun b' u hb hu => (Heap.get?_update_other s.heap (Obj.mapSeq f) (Ne.symm hb)).trans hu) ⟨_, q⟩ ?_
  exact ⟨hz, its', _, hv, q⟩
theorem Inv.lnew {its : List Value} {t' : Nat} (I : Inv X pins σ H s) (hv : Vals ys its) (hz : ys.length ≤ sizeLine) :
    Inv X pins σ (upd H s.heap.objs.size (.lst ys)) { s with heap := s.heap.push { cls := .type "list", data := .seq its.toArray }, toks := t' } :=
  I.laid (fun _ _ q => Heap.get?_push_of_some _ q) (Nat.le_refl _) ⟨hz, its, 0, hv, Heap.get?_push_size _ rfl⟩
theorem Inv.fresh (I : Inv X pins σ H s) : H s.heap.objs.size = none := I.hok.fresh (Nat.le_refl _)
theorem Inv.lstM (I : Inv X pins σ H s) (hH : H l = some (.lst xs)) : xs.length ≤ sizeLine ∧ ∃ (its : List Value) (n : Nat), Vals xs its ∧ xs.length = its.length ∧ s.heap.get? l = some { cls := .type "list", data := .seq its.toArray n } := by
  obtain ⟨z, its, n, r, e⟩ := I.hok l _ hH
  exact ⟨z, its, n, r, r.length, e⟩

theorem notLongL {n : Nat} (h : n ≤ sizeLine) : Builtin.List.listTooLong n = false := by
  unfold Builtin.List.listTooLong
  exact decide_eq_false (by omega)
end

section
variable {X : Cx}

def rAppend : V → List V → Hp → VK → Prop := fun x vs H Q => ∃ l xs y, x = .ref l ∧ vs = [y] ∧ H l = some (.lst xs) ∧ xs.length < sizeLine ∧ Q .non (upd H l (.lst (xs ++ [y])))
theorem mt_append : MtM X "list.append" rAppend := by
  intro pins s σ H x vs v us Q I rx rv h
  obtain ⟨l, xs, y, rfl, rfl, hH, hz, q⟩ := h
  cases rx
  obtain ⟨u, rfl, ru⟩ := rv.one
  obtain ⟨z, its, n, r, hl, e⟩ := I.lstM hH
  refine call_meets F.slot_list_append ⟨_, e, rfl⟩ F.entry_list_append (F.args_list_append_2 _ _) (PySem.list_append l its.toArray n u (by rw [List.size_toArray]; omega)) ⟨e, ?_⟩
  refine ⟨.non, _, I.lset (its' := its ++ [u]) hH e (by simp) (r.append (.cons ru .nil)) ?_, rfl, q⟩
  rw [List.length_append, List.length_singleton]
  omega

def rExtend : V → List V → Hp → VK → Prop := fun x vs H Q => ∃ l b xs zs, x = .ref l ∧ vs = [.ref b] ∧ H l = some (.lst xs) ∧ H b = some (.lst zs) ∧ xs.length + zs.length ≤ sizeLine ∧ Q .non (upd H l (.lst (xs ++ zs)))
theorem mt_extend : MtM X "list.extend" rExtend := by
  intro pins s σ H x vs v us Q I rx rv h
  obtain ⟨l, b, xs, zs, rfl, rfl, hH, hB, hz, q⟩ := h
  cases rx
  obtain ⟨u, rfl, ru⟩ := rv.one
  cases ru
  obtain ⟨z, its, n, r, hl, e⟩ := I.lstM hH
  obtain ⟨z2, its2, n2, r2, hl2, e2⟩ := I.lstM hB
  have hsz : its.toArray.size + its2.toArray.size ≤ sizeLine := by rw [List.size_toArray, List.size_toArray]; omega
  have hlong : ¬ (!its.toArray.isEmpty && Builtin.List.listTooLong (its.toArray.size + its2.toArray.size)) = true := by
    rw [notLongL hsz, Bool.and_false]
    exact Bool.false_ne_true
  refine call_meets F.slot_list_extend ⟨_, e, rfl⟩ F.entry_list_extend (F.args_list_extend_2 _ _)
    (AutoSeq1.list_extend_list_list_0 l its.toArray n b its2.toArray n2 hlong (by rw [List.size_toArray]; omega) (by omega)) ⟨e, e2, ?_⟩
  refine ⟨.non, _, I.lset (its' := its ++ its2) hH e (by simp) (r.append r2) ?_, rfl, q⟩
  rw [List.length_append]
  omega

def rPop : V → List V → Hp → VK → Prop := fun x vs H Q => ∃ l xs y, x = .ref l ∧ vs = [] ∧ H l = some (.lst xs) ∧ xs[xs.length - 1]? = some y ∧ Q y (upd H l (.lst xs.dropLast))
theorem mt_pop : MtM X "list.pop" rPop := by
  intro pins s σ H x vs v us Q I rx rv h
  obtain ⟨l, xs, y, rfl, rfl, hH, hy, q⟩ := h
  cases rx
  have hus := rv.zero
  subst hus
  obtain ⟨z, its, n, r, hl, e⟩ := I.lstM hH
  obtain ⟨u, hu, ru⟩ := r.get hy
  have hy' : its.toArray[its.toArray.size - 1]? = some u := by
    show its.toArray[its.length - 1]? = some u
    rw [← Array.getElem?_toList, ← hl]
    exact hu
  refine call_meets F.slot_list_pop ⟨_, e, rfl⟩ F.entry_list_pop (F.args_list_pop_1 _) (MeetsSeq.list_pop_last l its.toArray n u hy' (by rw [List.size_toArray]; omega)) ⟨e, ?_⟩
  refine ⟨y, _, I.lset (its' := its.dropLast) hH e ?_ r.dropLast ?_, ru, q⟩
  · show its.toArray.eraseIdxIfInBounds (its.toArray.size - 1) = its.dropLast.toArray
    rw [List.size_toArray, List.eraseIdxIfInBounds_toArray, erase_last]
  · rw [List.length_dropLast]
    omega

def rPopAt : V → List V → Hp → VK → Prop := fun x vs H Q => ∃ l xs i k y, x = .ref l ∧ vs = [.int i] ∧ H l = some (.lst xs) ∧ -(2 ^ 63) ≤ i ∧ i < 2 ^ 63 ∧ seqIndex? i xs.length = some k ∧ xs[k]? = some y ∧ Q y (upd H l (.lst (xs.eraseIdx k)))
theorem mt_popAt : MtM X "list.pop" rPopAt := by
  intro pins s σ H x vs v us Q I rx rv h
  obtain ⟨l, xs, i, k, y, rfl, rfl, hH, h1, h2, hk, hy, q⟩ := h
  cases rx
  obtain ⟨u, rfl, ru⟩ := rv.one
  obtain ⟨t, rfl⟩ := ru
  obtain ⟨z, its, n, r, hl, e⟩ := I.lstM hH
  obtain ⟨w, hw, rw'⟩ := r.get hy
  refine call_meets F.slot_list_pop ⟨_, e, rfl⟩ F.entry_list_pop (F.args_list_pop_2 _ _)
    (MeetsSeq.list_pop_at l its.toArray n i t k w (fitsIndex_both h1 h2) (by rw [List.size_toArray, ← hl]; exact hk) (by rw [← Array.getElem?_toList]; exact hw) (by rw [List.size_toArray]; omega)) ⟨e, ?_⟩
  refine ⟨y, _, I.lset (its' := its.eraseIdx k) hH e ?_ (r.eraseIdx k) ?_, rw', q⟩
  · show its.toArray.eraseIdxIfInBounds k = (its.eraseIdx k).toArray
    rw [List.eraseIdxIfInBounds_toArray]
  · have := len_erase xs k
    omega


def rClear : V → List V → Hp → VK → Prop := fun x vs H Q => ∃ l xs, x = .ref l ∧ vs = [] ∧ H l = some (.lst xs) ∧ Q .non (upd H l (.lst []))
theorem mt_clear : MtM X "list.clear" rClear := by
  intro pins s σ H x vs v us Q I rx rv h
  obtain ⟨l, xs, rfl, rfl, hH, q⟩ := h
  cases rx
  have hus := rv.zero
  subst hus
  obtain ⟨z, its, n, r, hl, e⟩ := I.lstM hH
  refine call_meets F.slot_list_clear ⟨_, e, rfl⟩ F.entry_list_clear (F.args_list_clear_1 _) (AutoSeq1.list_clear_list_0 l its.toArray n (by rw [List.size_toArray]; omega)) ⟨e, ?_⟩
  exact ⟨.non, _, I.lset (its' := []) (ys := []) hH e rfl .nil (Nat.zero_le _), rfl, q⟩

def rCat : R2 := fun x y H Q => ∃ l b xs zs, x = .ref l ∧ y = .ref b ∧ H l = some (.lst xs) ∧ H b = some (.lst zs) ∧ xs.length + zs.length ≤ sizeLine ∧ ∀ p, H p = none → Q (.ref p) (upd H p (.lst (xs ++ zs)))
theorem op_cat : OpR X (binaryOp .Add) rCat := by
  intro pins s σ H x y v u Q I rx ry h
  obtain ⟨l, b, xs, zs, rfl, rfl, hH, hB, hz, q⟩ := h
  cases rx
  cases ry
  obtain ⟨z, its, n, r, hl, e⟩ := I.lstM hH
  obtain ⟨z2, its2, n2, r2, hl2, e2⟩ := I.lstM hB
  refine PySem.P.add_list e e2 ?_ (by rw [List.size_toArray, List.size_toArray]; omega)
  have ea : its.toArray ++ its2.toArray = (its ++ its2).toArray := by simp
  rw [ea]
  exact ⟨.ref _, _, I.lnew (t' := s.toks) (r.append r2) (by rw [List.length_append]; omega), rfl, q _ I.fresh⟩

end

section
variable {prog : Program} {w : World} {A : Around} {E : Value → Shared → Prop} {s : Shared}
end

section
variable {X : Cx}
end
end L2

namespace L2
open PySem PySem.Spec PyProof.Rows

section
variable {κ : Type} [DecidableEq κ]



end




section
variable {P : Program} {w : World} {H : Hp} {h : Heap} {a : Addr}
end



section
variable {X : Cx} {pins : List (Addr × Obj)} {σ : St} {H : Hp} {s : Shared} {a : Addr} {y v : V} {u r : Value} {o : Option V} {A : Around} {E : Value → Shared → Prop}


end

section
variable {X : Cx} {pins : List (Addr × Obj)} {σ : St} {H : Hp} {s : Shared} {a : Addr} {kvs : List (Key × V)} {k : Key} {u : Value} {A : Around} {E : Value → Shared → Prop}
end





section
variable {X : Cx} {o i e value : Expr} {pos pos' tpos : Pos} {td ty tv : TE}
end


section
variable {X : Cx} {pos : Pos}
end






section
variable {X : Cx} {pins : List (Addr × Obj)} {σ : St} {H : Hp} {s : Shared} {a : Addr} {y d : V} {u r : Value} {o : Option V} {A : Around} {E : Value → Shared → Prop}
end

section
variable {X : Cx} {o e f : Expr} {apos cpos : Pos} {td ty tx : TE}
end

section
variable {X : Cx} {pins : List (Addr × Obj)} {σ : St} {H : Hp} {s : Shared} {a : Addr} {kvs : List (Key × V)} {A : Around} {E : Value → Shared → Prop}
end


section
variable {X : Cx} {pins : List (Addr × Obj)} {σ : St} {H : Hp} {s : Shared} {a : Addr} {y : V} {u : Value} {A : Around} {E : Value → Shared → Prop}
end
end L2

namespace Att
open PySem PySem.W PySem.Calls PyProof.Rows

theorem ints_of_wellAll {P : Params} {h : Heap} : ∀ (ns : List Int) (vs : List Value), WellAll P h vs (ns.map WData.int) → IntsAre vs ns := by
  intro ns
  induction ns with
  | nil =>
    intro vs w
    rw [List.map_nil] at w
    cases w
    exact .nil
  | cons n ns ih =>
    intro vs w
    rw [List.map_cons] at w
    cases w with
    | cons a b =>
      cases a
      exact .cons _ _ (ih _ b)

theorem script_of {l : OpenLaw} {n : Nat} (hn : l.most = some n) {P : Params} {h : Heap} {args : List WData} {vals : List Value}
    (hpre : l.row.toRowW.claim.pre args = true) (hwl : WellAll P h vals args) :
    ∃ a vs ns, vals = [Value.ref a] ∧ args = [WData.list (ns.map WData.int)] ∧ h.get? a = some { cls := .type "list", data := .seq vs.toArray } ∧ IntsAre vs ns ∧ ns.length ≤ n := by
  have hsh : WShape.hasAll [] args [.list .int] = true := (pre_splitW hpre).1
  have hc : l.pre.holds [] { args := args } = true := (pre_splitW hpre).2
  obtain ⟨d, r, rfl, h1, h2⟩ := hasAllW_cons hsh
  obtain rfl := hasAllW_nil h2
  obtain ⟨xs, rfl, h3⟩ := hasW_list h1
  obtain ⟨ns, rfl⟩ := items_int h3
  have hlen : ns.length ≤ n := by
    unfold OpenLaw.pre at hc
    have h4 : (WTm.not (.lt (.lit (.int (n : Int))) (.len (.arg 0)))).holds [] { args := [.list (ns.map .int)] } = true := by
      have h4 := (holds_andW hc).1
      rw [hn] at h4
      exact h4
    have h5 := condW_of h4 (w_not (w_lt w_lit (w_len_list (w_arg rfl))))
    rw [List.length_map] at h5
    refine Nat.le_of_not_lt fun q => ?_
    have q' : (n : Int) < ((ns.length : Nat) : Int) := by omega
    first
      | (rw [decide_eq_true q'] at h5; exact absurd h5 (by decide))
      | (simp at h5; omega)
  cases hwl with
  | cons w1 w2 =>
    cases w2
    cases w1 with
    | list ho hall => exact ⟨_, _, ns, rfl, rfl, ho, ints_of_wellAll ns _ hall, hlen⟩

theorem post_true (l : OpenLaw) (args : List WData) : l.row.toRowW.claim.post args (.bool true) args = true :=
  postW_of (r := l.row.toRowW) (X := (true == true))
    (show WShape.has [] (.bool true) .bool = true by first | rfl | decide | simp [WShape.has, WShape.arms, WShape.armsAll])
    (show (WTm.eq .res (.lit (.bool true))).value [] { args := args, res := some (.bool true), after := args } = some (.bool (true == true)) from w_eq_bool (w_res rfl) w_lit) rfl


theorem attach_call {l : OpenLaw} {n : Nat} {q : Program} {loose : List Str} {XP : (Str → Option Value) → Heap → Prop} {YP : World → Heap → Prop} {d : DefRec}
    (hn : l.most = some n) (hdf : d.params.defaults = [])
    (call : ∀ (w : World) (s₀ s₁ : Shared) (mg mb : Str → Option Value) (fa : Addr) (o : Obj) (pm cd doc : Value) (a : Addr) (vs : List Value) (ns : List Int),
      Ground q loose [] XP w s₀ mg mb s₁.heap → YP w s₁.heap →
      s₁.heap.get? fa = some o → o.data = .func (docDef d.name d.params d.body d.scope pm cd doc) → s₁.heap.CodeRec cd d.name → mg d.name = some (.ref fa) →
      s₁.heap.get? a = some { cls := .type "list", data := .seq vs.toArray } → IntsAre vs ns → ns.length ≤ n → s₁.gens = #[] →
      codeAny (model l.prog w) callerA (.call (.ref fa) ⟨[.ref a], []⟩) (fun r s' => r = .ok (.ret (.bool true)) ∧ OldK s₁.heap s'.heap ∧ s'.os = s₁.os ∧ AllBare s'.gens) s₁) :
    WalkO q loose XP YP l.row.toRowW d [] (fun f vs => PySem.call f vs) := by
  intro w s₀ s₁ mg mb G Y fa o pm cd doc dV kV ho hd hcd hD hmg hg args vals as hpre hlay hrd hwl hlo
  obtain rfl : dV = .none := Dflts.none hD hdf
  obtain rfl : kV = .none := Dflts.noKw hD
  obtain ⟨a, vs, ns, rfl, rfl, hobj, hints, hlen⟩ := script_of hn hpre hwl
  refine enter_call (codeAny_mono (call w s₀ s₁ mg mb fa o pm cd doc a vs ns G Y ho (fd_plain hd) hcd hmg hobj hints hlen hg) fun r s' hq => ?_)
  obtain ⟨rfl, h2, h3, h4⟩ := hq
  exact ⟨.inl ⟨.bool true, .bool true, [], rfl, fun _ => rfl, .bool true, post_true l _, fun _ => ⟨List.Pairwise.nil, fun _ hm => (nomatch hm)⟩⟩, h2, h3, h4⟩


section
variable {prog : Program} {w : World} {A : Around} {E : Value → Shared → Prop} {s : Shared} {K : Frag}





def ledger (h : Heap) (L d : Addr) : List (Addr × Obj) := (List.range h.objs.size).filterMap fun a => if a = L ∨ a = d then none else (h.get? a).map fun o => (a, o)

end
end Att

namespace L2
open PySem PySem.Spec PyProof.Rows

theorem vals_ints : ∀ {vs : List Value} {ns : List Int}, IntsAre vs ns → Vals (ns.map V.int) vs
  | _, _, .nil => .nil
  | _, _, .cons n t h => .cons ⟨t, rfl⟩ (vals_ints h)

def Only (H : Hp) : Prop := ∀ b, H b = none ∨ ∃ o xs, H b = some (.frz o (.lst xs))

theorem law_call {P : Program} {w : World} {K : PySem.W.Frag} {mg mb : Str → Option Value} {CX : CXT} {k : Nat} {fa a : Addr} {fd : FuncData} {x : Str} {sp : Sp} {s₁ : Shared} {vs : List Value} {ns : List Int}
    (KX : K.In s₁.heap) (hns : s₁.heap.Ns mainGlobals mg) (hb : s₁.heap.Ns builtinsNs mb) (hbb : ∀ x : Str, x ≠ "__name__" → mb x = bootBuiltins x) (hlim : s₁.heap.NoLimit) (hg : s₁.gens = #[])
    (ha : s₁.heap.get? a = some { cls := .type "list", data := .seq vs.toArray }) (hi : IntsAre vs ns) (hl : ns.length ≤ sizeLine) (hr : Room k callerA)
    (F : ∀ base : Heap, K.In base → base.Ns mainGlobals mg → FnOk P w K mg base CX k fa fd [x] sp) (hbind : ∀ (s : Shared) (u : Value), BindsTo s fd ⟨[u], []⟩ [(x, u)])
    (hsp : ∀ H : Hp, Only H → SqL K H a (ns.map V.int) → sp [.ref a] H (fun v _ => v = .bl true) fun _ _ _ => False)
    (hCX : ∀ H e s', CX [] H s₁ (fun _ _ _ => False) e s' → False) :
    codeAny (model P w) callerA (.call (.ref fa) ⟨[.ref a], []⟩) (fun r s' => r = .ok (.ret (.bool true)) ∧ OldK s₁.heap s'.heap ∧ s'.os = s₁.os ∧ AllBare s'.gens) s₁ := by
  have rv := vals_ints hi
  have lenV := hi.length
  -- from an abstract heap in which nothing but the script may be tracked
  have core : ∀ H : Hp, Only H → SqL K H a (ns.map V.int) → HOk P w H s₁.heap → (∀ b, H b ≠ none → b = a) → (H a ≠ none → K.lookup a = none) →
      codeAny (model P w) callerA (.call (.ref fa) ⟨[.ref a], []⟩) (fun r s' => r = .ok (.ret (.bool true)) ∧ OldK s₁.heap s'.heap ∧ s'.os = s₁.os ∧ AllBare s'.gens) s₁ := by
    intro H hO hS hok hA hK
    have base_of : ∀ {b : Addr} {o : Obj}, s₁.heap.get? b = some o → H b = none → (hidT s₁.heap H).get? b = some o := fun e n => hidT_get e n
    have noA : ∀ {b : Addr} {o : Obj} {es : Array DictEntry} {ep : Nat}, s₁.heap.get? b = some o → o.data = .dict es ep → H b = none := fun {b o es ep} e d => by
      cases q : H b with
      | none => rfl
      | some u =>
        have e' : b = a := hA b (by rw [q]; simp)
        subst e'
        rw [ha] at e; cases e
        have d' : Data.seq vs.toArray _ = Data.dict es ep := d
        cases d'
    have nsK : ∀ {b : Addr} {m : Str → Option Value}, s₁.heap.Ns b m → (hidT s₁.heap H).Ns b m := fun {b m} ⟨o, es, ep, e, d, r⟩ => ⟨o, es, ep, base_of e (noA e d), d, r⟩
    have hKb : K.In (hidT s₁.heap H) := fun b o e => base_of (KX b o e) (by
      cases q : H b with
      | none => rfl
      | some u =>
        have e' : b = a := hA b (by rw [q]; simp)
        subst e'
        rw [hK (by rw [q]; simp)] at e; cases e)
    have hM : Mod K mg (hidT s₁.heap H) := ⟨hKb, nsK hns, ⟨mb, nsK hb, hbb⟩, let ⟨mc, h1, h2⟩ := hlim; ⟨mc, nsK h1, h2⟩⟩
    have e0 : Env0 P w K mg (hidT s₁.heap H) callerA [] s₁ H := ⟨rfl, hM, fun b o e => of_hidT e, Nat.le_of_eq (hidT_size _ _), trivial, fun b hb => absurd (show b ∈ ([] : List Addr) from hb) (by simp), hok, .of_eq hg⟩
    refine codeAny_mono ((F _ hKb (nsK hns)).run callerA [] s₁ H ⟨[.ref a], []⟩ [.ref a] [.ref a] _ _ hr e0 (hbind s₁ (.ref a)) (.cons rfl .nil) (hsp H hO hS)) fun r s' h => ?_
    cases r with
    | error e => exact (hCX H e s' h).elim
    | ok fl =>
      cases fl with
      | next => exact False.elim h
      | brk => exact False.elim h
      | cont => exact False.elim h
      | ret u =>
        obtain ⟨v, H', os, bare, un, hok', r', q⟩ := h
        have q' : v = .bl true := q
        subst q'
        obtain rfl : u = Value.bool true := r'
        refine ⟨rfl, OldK.of_keep fun b o e => ?_, os, bare⟩
        cases q : H b with
        | none => exact un.keep b o e q (by intro z; exact absurd (show b ∈ ([] : List Addr) from z) (by simp)) (by simp)
        | some u =>
          rcases hO b with z | ⟨ob, xs, z⟩
          · rw [q] at z; cases z
          · have z2 := un.frzs b ob _ z
            obtain ⟨e1, _⟩ := hok b _ z
            obtain ⟨e2, _⟩ := hok' b _ z2
            rw [e] at e1; cases e1
            exact e2
  cases hk : K.lookup a with
  | some o =>
    -- the script is one of the module's own objects
    have e := KX a o hk
    rw [ha] at e
    cases e
    refine core (fun _ => none) (fun _ => .inl rfl) (.inr ⟨_, vs.toArray, _, hk, rfl, rfl, rfl, by rw [List.size_toArray, lenV]; exact hl, by simpa using rv⟩) (fun b u z => by have z' : (none : Option HO) = some u := z; cases z') (fun b z => absurd rfl z) fun z => absurd rfl z
  | none =>
    refine core (fun b => if b = a then some (.frz { cls := .type "list", data := .seq vs.toArray } (.lst (ns.map V.int))) else none) (fun b => ?_) (.inl (.inr ⟨{ cls := .type "list", data := .seq vs.toArray }, if_pos rfl⟩)) (fun b u z => ?_) (fun b z => ?_) fun _ => hk
    · by_cases hb : b = a
      · exact .inr ⟨_, _, if_pos hb⟩
      · exact .inl (if_neg hb)
    · by_cases hb : b = a
      · have z' := (if_pos hb).symm.trans z
        cases z'
        subst hb
        exact ⟨ha, by rw [List.length_map]; exact hl, vs, _, rv, ha⟩
      · have z' := (if_neg hb).symm.trans z
        cases z'
    · by_cases hb : b = a
      · exact hb
      · exact absurd (if_neg hb) z
end L2

namespace L2
open PySem PySem.Spec PyProof.Rows


theorem walk_of {l : PySem.W.OpenLaw} {n k : Nat} {q : Program} {loose : List Str} {XP : (Str → Option Value) → Heap → Prop} {YP : World → Heap → Prop} {d : DefRec} {K : Params → PySem.W.Frag} {CX : World → CXT} {sp : World → Sp} {x : Str}
    (hn : l.most = some n) (hn2 : n ≤ sizeLine) (hdf : d.params.defaults = []) (hr : Room k callerA)
    (hY : ∀ (w : World) (h : Heap), YP w h → (K w.params).In h)
    (F : ∀ (w : World) (mg : Str → Option Value) (fa : Addr) (h : Heap), (K w.params).In h → h.Ns mainGlobals mg → mg d.name = some (.ref fa) →
      ∃ fd : FuncData, (∀ (s : Shared) (u : Value), BindsTo s fd ⟨[u], []⟩ [(x, u)]) ∧
        ∀ base : Heap, (K w.params).In base → base.Ns mainGlobals mg → FnOk l.prog w (K w.params) mg base (CX w) k fa fd [x] (sp w))
    (hsp : ∀ (w : World) (H : Hp) (a : Addr) (ns : List Int), ns.length ≤ n → Only H → SqL (K w.params) H a (ns.map V.int) → sp w [.ref a] H (fun v _ => v = .bl true) fun _ _ _ => False)
    (hCX : ∀ (w : World) (H : Hp) (s : Shared) (e : Value) (s' : Shared), CX w [] H s (fun _ _ _ => False) e s' → False) :
    PySem.W.WalkO q loose XP YP l.row.toRowW d [] (fun f vs => PySem.call f vs) := by
  refine Att.attach_call hn hdf fun w s₀ s₁ mg mb fa o pm cd doc a vs ns G Y ho hd hcd hmg hobj hints hlen hg => ?_
  have KX := hY w _ Y
  obtain ⟨fd, hb, hF⟩ := F w mg fa _ KX G.T.g hmg
  exact law_call KX G.T.g G.T.b G.T.builtins G.T.nolimit hg hobj hints (Nat.le_trans hlen hn2) hr hF hb (fun H hO hS => hsp w H a ns hlen hO hS) fun H e s' => hCX w H s₁ e s'
end L2


namespace L2
open PySem PySem.Spec PyProof.Rows

def defArgs (s : Stmt) : Arguments := match s with
  | .FunctionDef _ a _ _ _ _ _ _ _ _ => a
  | _ => { posonlyargs := [], args := [], vararg := none, kwonlyargs := [], kw_defaults := [], kwarg := none, defaults := [] }
def defBody (s : Stmt) : List Stmt := match s with
  | .FunctionDef _ _ b _ _ _ _ _ _ _ => b
  | _ => []
def defScope (s : Stmt) : Scope := match s with
  | .FunctionDef _ _ _ _ _ _ sc _ _ _ => sc
  | _ => { kind := .function, names := [], isGenerator := false, isCoroutine := false }

abbrev CX0 : CXT := fun _ _ _ _ _ _ => False
abbrev E0 : XK := fun _ _ _ => False
theorem pass0 {X : Cx} : Passes CX0 X E0 := fun _ _ _ _ _ _ _ h => h.elim

structure Fun (K : PySem.W.Frag) (x qual : Str) (st : Stmt) (f : Addr) (fd : FuncData) : Prop where
  ex : ∃ (oc : Value) (od : Option Addr) (kV doc pm : Value) (an : Option Addr) (cdv ct : Value) (osl : Array (Option Value)),
    fd = PySem.W.fnOf x qual (defArgs st) (defBody st) (defScope st) .none kV doc pm an cdv ct ∧ K.lookup f = some ⟨oc, od, .func fd, osl⟩ ∧ PySem.W.codeIn K cdv qual = true
  kp : PySem.W.keepIn K (.ref f) = true
section
variable {P : Program} {w : World} {K : PySem.W.Frag} {mg : Str → Option Value} {base : Heap}
theorem Fun.ok {x qual : Str} {st : Stmt} {f : Addr} {fd : FuncData} {N ps : List Str} {k : Nat} {sp : Sp} (F : Fun K x qual st f fd) (S : FnScope N ps (defScope st)) (len : ∀ vs H Q E, sp vs H Q E → vs.length = ps.length)
    (hbody : ∀ (cdv : Value) (A : Around) (outer : List Env) (s : Shared) (H : Hp) (vs : List V) (Q : VK) (E : XK), Room k (A.deeper (envOfC qual (defScope st) s.heap.objs.size f cdv)) → sp vs H Q E →
      ∃ t, PSs (cxOf CX0 P w K mg base N qual (defScope st) f cdv A outer s H E).nox (defBody st) t ∧ t { nx := fun _ H' => Q .non H', rt := Q } (start N vs) H) : FnOk P w K mg base CX0 (k + 1) f fd ps sp := by
  obtain ⟨oc, od, kV, doc, pm, an, cdv, ct, osl, rfl, lk, hcd⟩ := F.ex
  refine fn_of lk hcd S len fun A outer s H vs Q E hr hsp => ?_
  obtain ⟨t, h, q⟩ := hbody cdv A outer s H vs Q E hr hsp
  exact ⟨t, h.nox, q⟩
theorem Fun.binds {x qual : Str} {st : Stmt} {f : Addr} {fd : FuncData} {ps : List Str} (F : Fun K x qual st f fd)
    (h : ∀ (kV doc pm : Value) (an : Option Addr) (cdv ct : Value) (us : List Value), us.length = ps.length → bindArgs (PySem.W.fnOf x qual (defArgs st) (defBody st) (defScope st) .none kV doc pm an cdv ct) ⟨us, []⟩ = pure (ps.zip us)) : Binds K fd ps [] := by
  obtain ⟨oc, od, kV, doc, pm, an, cdv, ct, osl, rfl, lk, hcd⟩ := F.ex
  exact .all (h kV doc pm an cdv ct)
theorem fun_mk {x qual : Str} {st : Stmt} {f : Addr} {oc : Value} {od an : Option Addr} {osl : Array (Option Value)} {kV doc pm cdv ct : Value} (l : K.lookup f = some ⟨oc, od, .func (PySem.W.fnOf x qual (defArgs st) (defBody st) (defScope st) .none kV doc pm an cdv ct), osl⟩)
    (c : PySem.W.codeIn K cdv qual = true) (k : PySem.W.keepIn K (.ref f) = true) : Fun K x qual st f (PySem.W.fnOf x qual (defArgs st) (defBody st) (defScope st) .none kV doc pm an cdv ct) := ⟨⟨oc, od, kV, doc, pm, an, cdv, ct, osl, rfl, l, c⟩, k⟩
end
theorem small1000 {n : Nat} (h : n ≤ 1000) : n < sizeLine := Nat.lt_of_le_of_lt h (by decide)

section
variable {X : Cx}
theorem pv (i : Nat) {x : Str} {pos : Pos} (hN : X.N[i]? = some x := by rfl) (hv : Vis X.env.scope x := by first | exact Or.inl rfl | exact Or.inr (Or.inl rfl) | exact Or.inr (Or.inr rfl)) (hd : (x == ("__debug__" : Str)) = false := by decide)
    (hcd : (x == ("__classdict__" : Str)) = false := by decide) : PE X (.Name x pos) (tVar i) := pe_var hN hv hd hcd
end

theorem iteF {A B : Prop} (h : B) : if false = true then A else B := by
  rw [if_neg Bool.false_ne_true]
  exact h
theorem iteT {A B : Prop} (h : A) : if true = true then A else B := by
  rw [if_pos rfl]
  exact h
theorem ite2 {c A B : Prop} [Decidable c] (h1 : c → A) (h2 : ¬ c → B) : if c then A else B := by
  by_cases h : c
  · rw [if_pos h]
    exact h1 h
  · rw [if_neg h]
    exact h2 h
theorem iteNS {c A B : Prop} [Decidable c] (hc : c) (h : B) : if (!decide c) = true then A else B := by
  rw [decide_eq_true hc]
  exact iteF h

def Same (H H' : Hp) : Prop := ∀ b o, H b = some o → H' b = some o
theorem Same.refl (H : Hp) : Same H H := fun _ _ h => h
theorem Same.trans {H H1 H2 : Hp} (a : Same H H1) (b : Same H1 H2) : Same H H2 := fun c o h => b c o (a c o h)
theorem Same.free {H H' : Hp} (e : Same H H') {l : Addr} (h : H' l = Option.none) : H l = Option.none := by
  cases q : H l with
  | none => rfl
  | some o =>
    rw [e l o q] at h
    cases h
theorem Same.seq {K : PySem.W.Frag} {H H' : Hp} {a : Addr} {xs : List V} (e : Same H H') (h : SqL K H a xs) : SqL K H' a xs := by
  rcases h with (h | ⟨o, h⟩) | h
  · exact .inl (.inl (e _ _ h))
  · exact .inl (.inr ⟨o, e _ _ h⟩)
  · exact .inr h

section
variable {κ : Type} [DecidableEq κ]
end
end L2



namespace Sh
def rangeI (n : Nat) : List Int := (List.range n).map fun (i : Nat) => (i : Int)
theorem rangeI_len (n : Nat) : (rangeI n).length = n := by simp [rangeI]
theorem mem_rangeI {n : Nat} {z : Int} : z ∈ rangeI n ↔ 0 ≤ z ∧ z < n := by
  unfold rangeI
  rw [List.mem_map]
  constructor
  · rintro ⟨i, h, rfl⟩
    have := List.mem_range.mp h
    omega
  · intro h
    exact ⟨z.toNat, List.mem_range.mpr (by omega), by omega⟩
theorem sorted_unique : ∀ {a b : List Int}, a.Perm b → a.Pairwise (· ≤ ·) → b.Pairwise (· ≤ ·) → a = b
  | [], b, p, _, _ => by
    have := p.length_eq
    cases b with
    | nil => rfl
    | cons _ _ => simp at this
  | x :: r, [], p, _, _ => by
    have := p.length_eq
    simp at this
  | x :: r, y :: t, p, ha, hb => by
    have h1 : x = y := by
      have hy : y ∈ x :: r := p.mem_iff.mpr List.mem_cons_self
      have hx : x ∈ y :: t := p.mem_iff.mp List.mem_cons_self
      have q1 : x ≤ y := by
        rcases List.mem_cons.mp hy with e | hy
        · omega
        · exact (List.pairwise_cons.mp ha).1 y hy
      have q2 : y ≤ x := by
        rcases List.mem_cons.mp hx with e | hx
        · omega
        · exact (List.pairwise_cons.mp hb).1 x hx
      omega
    subst h1
    rw [sorted_unique (List.perm_cons x |>.mp p) (List.pairwise_cons.mp ha).2 (List.pairwise_cons.mp hb).2]
theorem rangeI_succ (n : Nat) : rangeI (n + 1) = rangeI n ++ [(n : Int)] := by
  unfold rangeI
  rw [List.range_succ, List.map_append]
  rfl
def Good (many : Nat) (ns : List Int) : Prop := (∀ b ∈ ns, 0 ≤ b ∧ b < (many : Int)) ∧ ns.length ≤ 9
theorem erase_perm {l : List Int} {j : Nat} (hj : j < l.length) : ([l[j]] ++ l.eraseIdx j).Perm l := by
  induction l generalizing j with
  | nil => simp at hj
  | cons x r ih =>
    cases j with
    | zero => simp
    | succ j =>
      have hj' : j < r.length := by simpa using hj
      have := ih hj'
      simp only [List.getElem_cons_succ, List.eraseIdx_cons_succ, List.singleton_append] at this ⊢
      exact (List.Perm.swap x r[j] _).trans (this.cons x)
theorem map_erase {α β : Type} (f : α → β) : ∀ (l : List α) (j : Nat), (l.map f).eraseIdx j = (l.eraseIdx j).map f
  | [], _ => rfl
  | _ :: _, 0 => rfl
  | x :: r, j + 1 => by
    have ih := map_erase f r j
    simp only [List.map_cons, List.eraseIdx_cons_succ, ih]
end Sh
namespace Sh
def split (ws : List (List Int)) (a b c : Int) : Bool := ws.any fun w => decide (a ∈ w) && (decide (c ∈ w) && !decide (b ∈ w))
structure Turn (many : Nat) (p : Int × Int) : Prop where
  a0 : 0 ≤ p.1
  a1 : p.1 < many
  b0 : 0 ≤ p.2
  b1 : p.2 < many
  ne : p.1 ≠ p.2
end Sh
namespace L2
open PySem PySem.Spec PyProof.Rows

def blkCx (X : Cx) (sc : Scope) (N' : List Str) (cl : List (Str × Addr)) (s : Shared) (H : Hp) (fp : List Addr) : Cx :=
  { X with N := N', s₀ := s, H₀ := H, env := compEnvC sc cl s.heap.objs.size X.env, outer := X.stack, ex := fp, fn := fun _ => false, pn := [], xe := fun _ _ => False }
structure BlkSc (N : List Str) (osc : Scope) (own : List Str) (cap : List (Str × Nat)) (sc : Scope) : Prop where
  kind : sc.kind = .function
  nocell : ∀ y ∈ sc.names, y.2 ≠ .cell
  names : ∀ y ∈ sc.names, y.2 = .local → sc.names.lookup y.1 = some .local
  free : ∀ y ∈ sc.names, y.2 = .free → osc.names.lookup y.1 = some .cell ∨ osc.names.lookup y.1 = some .free
  cap : ∀ p ∈ cap, N[p.2]? = some p.1 ∧ sc.names.lookup p.1 = some .free
def capSt (own : List Str) (cap : List (Str × Nat)) (σ : St) : St := own.map (fun _ => none) ++ cap.map fun p => (σ[p.2]?).join

theorem clo_go (env : Env) : ∀ (l : List (Str × NameKind)) (acc : List (Str × Addr)), (∀ y ∈ l, y.2 = .free → ∃ c, env.cells.lookup y.1 = some c) →
    (∀ x c, acc.lookup x = some c → env.cells.lookup x = some c) →
    ∃ cl, (forIn l acc (fun (p : Str × NameKind) r => if (p.2 == NameKind.free) = true then (cellOf env p.1 >>= fun a => pure (ForInStep.yield ((p.1, a) :: r))) else pure (ForInStep.yield r)) : Sem (List (Str × Addr))) = pure cl ∧
      (∀ x c, cl.lookup x = some c → env.cells.lookup x = some c) ∧ (∀ x, (acc.lookup x).isSome = true → (cl.lookup x).isSome = true) ∧ ∀ y ∈ l, y.2 = .free → (cl.lookup y.1).isSome = true := by
  intro l
  induction l with
  | nil => intro acc _ ha; exact ⟨acc, rfl, ha, fun _ h => h, fun _ h => nomatch h⟩
  | cons y r ih =>
    intro acc hl ha
    obtain ⟨n, k⟩ := y
    by_cases hk : k = .free
    · subst hk
      obtain ⟨c, hc⟩ := hl (n, .free) List.mem_cons_self rfl
      have hc : env.cells.lookup n = some c := hc
      obtain ⟨cl, e, h1, h2, h3⟩ := ih ((n, c) :: acc) (fun y hy => hl y (List.mem_cons_of_mem _ hy)) (fun x d hx => by
        rw [List.lookup_cons] at hx
        by_cases hxn : (x == n) = true
        · rw [hxn] at hx; cases hx
          have : x = n := by simpa using hxn
          rw [this]; exact hc
        · rw [Bool.not_eq_true] at hxn
          rw [hxn] at hx; exact ha x d hx)
      have e0 : cellOf env n = pure c := by unfold cellOf; rw [hc]
      refine ⟨cl, ?_, h1, fun x hx => h2 x ?_, fun z hz hzf => ?_⟩
      · rw [List.forIn_cons]
        simp only [beq_self_eq_true, if_true, e0]
        exact e
      · rw [List.lookup_cons]
        by_cases hxn : (x == n) = true
        · rw [hxn]; rfl
        · rw [Bool.not_eq_true] at hxn; rw [hxn]; exact hx
      · rcases List.mem_cons.mp hz with rfl | hz
        · exact h2 n (by rw [List.lookup_cons]; simp)
        · exact h3 z hz hzf
    · obtain ⟨cl, e, h1, h2, h3⟩ := ih acc (fun y hy => hl y (List.mem_cons_of_mem _ hy)) ha
      have hb : (k == NameKind.free) = false := by simpa using hk
      refine ⟨cl, ?_, h1, h2, fun z hz hzf => ?_⟩
      · rw [List.forIn_cons]
        simp only [hb, Bool.false_eq_true, if_false]
        exact e
      · rcases List.mem_cons.mp hz with rfl | hz
        · exact absurd hzf hk
        · exact h3 z hz hzf
theorem clo_of {env : Env} {sc : Scope} (h : ∀ y ∈ sc.names, y.2 = .free → ∃ c, env.cells.lookup y.1 = some c) :
    ∃ cl, closureFor sc env = pure cl ∧ (∀ x c, cl.lookup x = some c → env.cells.lookup x = some c) ∧ ∀ y ∈ sc.names, y.2 = .free → ∃ c, cl.lookup y.1 = some c := by
  obtain ⟨cl, e, h1, _, h3⟩ := clo_go env sc.names [] h (fun _ _ q => nomatch q)
  refine ⟨cl, ?_, h1, fun y hy hf => Option.isSome_iff_exists.mp (h3 y hy hf)⟩
  have e2 := congrArg (fun m : Sem (List (Str × Addr)) => m >>= fun cs => pure cs) e
  exact e2

theorem look_relabel {env : Env} : ∀ {names : List (Str × NameKind)} {x : Str} {k : NameKind},
    (names.map fun (n, k) => if (k == NameKind.free && env.scope.kind == .function && env.kindOf n == some .cell) then (n, NameKind.cell) else (n, k)).lookup x = some k →
    ∃ k0, names.lookup x = some k0 ∧ (k0 = k ∨ (k0 = .free ∧ k = .cell))
  | [], _, _, h => by simp at h
  | (n, k0) :: r, x, k, h => by
    have ih := @look_relabel env r x k
    rw [List.map_cons] at h
    rw [List.lookup_cons]
    by_cases hc : (k0 == NameKind.free && env.scope.kind == .function && env.kindOf n == some .cell) = true
    · have hf : k0 = .free := by
        rw [Bool.and_eq_true, Bool.and_eq_true] at hc
        simpa using hc.1.1
      have h' : List.lookup x ((n, NameKind.cell) :: r.map fun (n, k) => if (k == NameKind.free && env.scope.kind == .function && env.kindOf n == some .cell) then (n, NameKind.cell) else (n, k)) = some k := by
        simpa only [hc, if_true] using h
      rw [List.lookup_cons] at h'
      cases hx : x == n with
      | true => rw [hx] at h'; cases h'; exact ⟨k0, rfl, .inr ⟨hf, rfl⟩⟩
      | false => rw [hx] at h'; exact ih h'
    · have h' : List.lookup x ((n, k0) :: r.map fun (n, k) => if (k == NameKind.free && env.scope.kind == .function && env.kindOf n == some .cell) then (n, NameKind.cell) else (n, k)) = some k := by
        simpa only [hc, Bool.false_eq_true, if_false] using h
      rw [List.lookup_cons] at h'
      cases hx : x == n with
      | true => rw [hx] at h'; cases h'; exact ⟨k0, rfl, .inl rfl⟩
      | false => rw [hx] at h'; exact ih h'
theorem look_relabel_free {env : Env} {names : List (Str × NameKind)} {x : Str} (h : names.lookup x = some .free) :
    (names.map fun (n, k) => if (k == NameKind.free && env.scope.kind == .function && env.kindOf n == some .cell) then (n, NameKind.cell) else (n, k)).lookup x = some .cell ∨
    (names.map fun (n, k) => if (k == NameKind.free && env.scope.kind == .function && env.kindOf n == some .cell) then (n, NameKind.cell) else (n, k)).lookup x = some .free := by
  induction names with
  | nil => simp at h
  | cons y r ih =>
    obtain ⟨n, k0⟩ := y
    rw [List.lookup_cons] at h
    rw [List.map_cons]
    cases hx : x == n with
    | true =>
      rw [hx] at h; cases h
      by_cases hc : (NameKind.free == NameKind.free && env.scope.kind == .function && env.kindOf n == some .cell) = true
      · refine .inl ?_
        simp only [hc, if_true]
        rw [List.lookup_cons, hx]
      · refine .inr ?_
        simp only [hc, Bool.false_eq_true, if_false]
        rw [List.lookup_cons, hx]
    | false =>
      rw [hx] at h
      by_cases hc : (k0 == NameKind.free && env.scope.kind == .function && env.kindOf n == some .cell) = true
      · simp only [hc, if_true]
        rw [List.lookup_cons, hx]
        exact ih h
      · simp only [hc, Bool.false_eq_true, if_false]
        rw [List.lookup_cons, hx]
        exact ih h
theorem mem_of_look {names : List (Str × NameKind)} {x : Str} {k : NameKind} (h : names.lookup x = some k) : (x, k) ∈ names := PySem.mem_of_lookup h

section
variable {X : Cx} {pins : List (Addr × Obj)} {σ : St} {H : Hp} {s : Shared}

theorem blk_inv {own : List Str} {cap : List (Str × Nat)} {sc : Scope} {cl : List (Str × Addr)} {fp : List Addr} {h' : Heap} {tk : Nat} (I : Inv X pins σ H s) (hf : ∀ b ∈ fp, FpOk X pins H b) (hfo : ∀ b ∈ fp, ∃ o, s.heap.get? b = some o)
    (S : BlkSc X.N X.env.scope own cap sc) (h1 : ∀ x c, cl.lookup x = some c → X.env.cells.lookup x = some c) (h2 : ∀ y ∈ sc.names, y.2 = .free → ∃ c, cl.lookup y.1 = some c)
    (hn : ∃ m, h'.Ns s.heap.objs.size m) (hk : ∀ b o, s.heap.get? b = some o → h'.get? b = some o) :
    Inv (blkCx X sc (own ++ cap.map (·.1)) cl s H fp) [] (capSt own cap σ) H { s with heap := h', toks := tk } := by
  have hlt : ∀ b ∈ fp, b < s.heap.objs.size := fun b hb => let ⟨o, e⟩ := hfo b hb; Heap.lt_size e
  refine ⟨⟨I.mod, S.kind, I.ok.glob, I.ok.blt, Nat.le_refl _, fun x y c e1 e2 => I.ok.inj x y c (h1 x c e1) (h1 y c e2), fun x hx => ?_, fun x c z => absurd z Bool.false_ne_true, I.ok.hd, I.ok.frames, .inl rfl, fun b hb => ⟨Nat.ne_of_lt (hlt b hb), fun x c e => (hf b hb).2.2.2.2.1 x c (h1 x c e)⟩,
      I.bs, Nat.le_trans I.ok.bsz I.sz, fun b o e hb => ?_, fun b hb hz => ?_, I.stack, I.stkFree⟩,
    rfl, I.bare, Un.kept hk, ?_, fun x c e => ?_, I.hok.fresh (Nat.le_refl _), fun x c e => I.freeC x c (h1 x c e), fun p hp => absurd (show p ∈ ([] : List (Addr × Obj)) from hp) (by simp), I.hok.kept hk, ?_⟩
  · have hx' : (relabel sc X.env).names.lookup x = some .cell ∨ (relabel sc X.env).names.lookup x = some .free := hx
    have : (x, NameKind.free) ∈ sc.names := by
      rcases hx' with q | q
      · obtain ⟨k0, a, b | ⟨b, _⟩⟩ := look_relabel q
        · subst b; exact absurd rfl (S.nocell _ (mem_of_look a))
        · subst b; exact mem_of_look a
      · obtain ⟨k0, a, b | ⟨_, b⟩⟩ := look_relabel q
        · subst b; exact mem_of_look a
        · cases b
    exact h2 _ this rfl
  · rcases (hf b hb).2.2.2.1 with z | z
    · exact I.ok.noex b o e z
    · exact absurd (Nat.lt_of_lt_of_le (Heap.lt_size e) (Nat.le_trans I.ok.bsz z)) (Nat.lt_irrefl _)
  · rcases List.mem_cons.mp (I.stkSub b hz) with z | z
    · exact (hf b hb).2.1 z
    · exact (hf b hb).2.2.1 z
  · obtain ⟨m', hm'⟩ := hn
    refine ⟨m', hm', fun i x v e1 e2 _ => ?_⟩
    have e1 : (own ++ cap.map (·.1))[i]? = some x := e1
    have e2 : (own.map (fun _ => (none : Option V)) ++ cap.map fun p => (σ[p.2]?).join)[i]? = some (some v) := e2
    by_cases hi : i < own.length
    · rw [List.getElem?_append_left (by simpa using hi), List.getElem?_map] at e2
      cases q : own[i]? with
      | none => rw [q] at e2; cases e2
      | some a => rw [q] at e2; cases e2
    · rw [List.getElem?_append_right (by simpa using hi), List.getElem?_map, List.length_map] at e2
      rw [List.getElem?_append_right (by simpa using hi), List.getElem?_map] at e1
      cases q : cap[i - own.length]? with
      | none => rw [q] at e2; cases e2
      | some p =>
        rw [q] at e1 e2
        obtain ⟨y, j⟩ := p
        have ex : y = x := Option.some.inj e1
        subst ex
        have hj : σ[j]? = some (some v) := by
          have : (σ[j]?).join = some v := Option.some.inj e2
          cases z : σ[j]? with
          | none => rw [z] at this; cases this
          | some a => rw [z] at this; rw [show a = some v from this]
        obtain ⟨c1, c2⟩ := S.cap _ (List.mem_of_getElem? q)
        have c1 : X.N[j]? = some y := c1
        have c2 : sc.names.lookup y = some .free := c2
        obtain ⟨m, hm, hl⟩ := I.loc
        have hos := S.free _ (mem_of_look c2) rfl
        have hos : X.env.scope.names.lookup y = some .cell ∨ X.env.scope.names.lookup y = some .free := hos
        obtain ⟨u, r, lk⟩ := hl j y v c1 hj (hos.elim (fun z => .inr (.inl z)) fun z => .inr (.inr z))
        refine ⟨u, r, .inr ⟨look_relabel_free c2, ?_⟩⟩
        obtain ⟨c, hc⟩ := h2 _ (mem_of_look c2) rfl
        rcases lk with ⟨k, _⟩ | ⟨_, c', e, z⟩
        · have k : X.env.scope.names.lookup y = some .local := k
          rcases hos with w' | w' <;> rw [k] at w' <;> cases w'
        · have : c' = c := Option.some.inj (e.symm.trans (h1 y c hc))
          subst this
          obtain ⟨o, ho, hd⟩ := z
          exact ⟨c', hc, o, hk _ _ ho, hd⟩
  · obtain ⟨v, o, ho, hd⟩ := I.cell x c (h1 x c e)
    exact ⟨v, o, hk _ _ ho, hd⟩
  · show (capSt own cap σ).length = (own ++ cap.map (·.1)).length
    unfold capSt
    simp

theorem blk_back {sc : Scope} {N' : List Str} {cl : List (Str × Addr)} {fp : List Addr} {σ' : St} {H' : Hp} {s' : Shared} {h' : Heap} {pins' : List (Addr × Obj)} (I : Inv X pins σ H s) (hf : ∀ b ∈ fp, FpOk X pins H b)
    (J : Inv (blkCx X sc N' cl s H fp) pins' σ' H' s') (hs : Heap.SameBut s.heap.objs.size s'.heap h') : Inv X pins σ H' { s' with heap := h' } := by
  have u := J.base
  have fr : H' s.heap.objs.size = none := J.free
  have ne : ∀ b o, s.heap.get? b = some o → b ≠ s.heap.objs.size := fun b o e => Nat.ne_of_lt (Heap.lt_size e)
  refine I.call' (s' := { s' with heap := h' }) (ch := fp) J.os ⟨fun b o e n hb hx => (hs.2 b (ne b o e)).trans (u.keep b o e n hb hx), fun b o e n hb hx => ?_, u.free, fun b o e hx => ?_, u.tups, u.frzs, u.tbls⟩ (fun a o e => ?_) J.bare
    fun b hb => ⟨(hf b hb).2.2.2.1, (hf b hb).2.1, (hf b hb).2.2.2.2.1, (hf b hb).2.2.2.2.2⟩
  · obtain ⟨sl, q⟩ := u.slot b o e n hb hx
    exact ⟨sl, (hs.2 b (ne b o e)).trans q⟩
  · obtain ⟨o', q⟩ := u.there b o e hx
    exact ⟨o', (hs.2 b (ne b o e)).trans q⟩
  · refine (J.hok a o e).stay (fun b w' hb q => (hs.2 b ?_).trans q) (fun _ q => q) fun _ _ q => q
    rintro rfl
    rcases hb with rfl | hb
    · rw [fr] at e; cases e
    · rw [fr] at hb; cases hb
end

def PTs (X : Cx) (ifs : List Expr) (t : TT) : Prop :=
  ∀ (pins : List (Addr × Obj)) (s : Shared) (σ : St) (H : Hp) (Q : Bool → Hp → Prop), Inv X pins σ H s → t σ H Q →
    wpAny (model X.prog X.w) X.A (forIn ifs true fun c r => if r = true then do let ok ← isTrue c X.env (eval c X.env); pure (ForInStep.yield ok) else pure (ForInStep.yield r)) (TP X pins σ Q) X.xe s
theorem pts_nil {X : Cx} : PTs X [] (fun _ H Q => Q true H) := fun _ _ _ H _ I h => wpAny_tests_nil ⟨H, I, h⟩
theorem pts_one {X : Cx} {c : Expr} {t : TT} (h : PT X c t) : PTs X [c] t := fun pins s σ H Q I q => wpAny_tests_one (h pins s σ H Q I q)

def cLoop (J : It) (l : Addr) (g : TG) (tt : TT) (te : TE) (σ0 : St) (H : Hp) (Q : Hp → Prop) : Prop :=
  ∃ W : Nat → Nat → List V → St → Hp → Prop, (∃ m, W 0 m [] σ0 H) ∧ ∀ i m ys σ H, W i m ys σ H →
    (J.stop i H ∧ Q H) ∨ (J.go i H ∧ ∃ N : List V → St → Hp → Prop, (∀ zs σ' H', N zs σ' H' → ∃ m', m' < m ∧ W (i + 1) m' zs σ' H') ∧ ∀ x H1, J.yld i H x H1 → g x σ H1 fun σ2 H2 => tt σ2 H2 fun b H3 =>
      if b = true then te σ2 H3 fun y H4 => H4 l = some (.lst ys) ∧ ys.length < sizeLine ∧ N (ys ++ [y]) σ2 (upd H4 l (.lst (ys ++ [y])))
      else N ys σ2 H3)
def tComp (wi : TI) (own : List Str) (cap : List (Str × Nat)) (g : TG) (tt : TT) (te : TE) : TE := fun σ H Q =>
  wi σ H fun J H1 => ∀ l, H1 l = none → cLoop J l g tt te (capSt own cap σ) (upd H1 l (.lst [])) fun H2 => Q (.ref l) H2

section
variable {X : Cx} {pins : List (Addr × Obj)} {σ : St} {H : Hp} {s : Shared} {elt tg iter : Expr} {ifs : List Expr} {sc : Scope} {pos : Pos} {own : List Str} {cap : List (Str × Nat)} {wi : TI} {g : TG} {tt : TT} {te : TE}

theorem blk_loop {N' : List Str} {cl : List (Str × Addr)} {s0 : Shared} {H0 : Hp} {fp : List Addr} {it l : Addr} {tn : Nat → Heap → Prop} {J : It} {R : Result → Shared → Prop} {Q : Hp → Prop} {σ0 : St}
    (hc : X.calm = true) (T : Turn X.prog X.w X.K tg J fp it tn) (hfp : ∀ {H' : Hp}, (∀ b ∈ fp, H' b = none) → ∀ b ∈ fp, FpOk (blkCx X sc N' cl s0 H0 fp) [] H' b)
    (hg : PG (blkCx X sc N' cl s0 H0 fp) tg g) (ht : PTs (blkCx X sc N' cl s0 H0 fp) ifs tt) (he : PE (blkCx X sc N' cl s0 H0 fp) elt te)
    (I : Inv (blkCx X sc N' cl s0 H0 fp) [] σ0 H s) (st : tn 0 s.heap) (fr : ∀ b ∈ fp, H b = none) (h : cLoop J l g tt te σ0 H Q)
    (hR : ∀ σ' H' s', Inv (blkCx X sc N' cl s0 H0 fp) [] σ' H' s' → Q H' → R (.ok .next) s') :
    codeAny (model X.prog X.w) X.A (.compLoop (.ListComp elt [⟨tg, iter, ifs, 0⟩] sc pos) 0 (.ref it) (.ref l) (blkCx X sc N' cl s0 H0 fp).env) R s := by
  obtain ⟨W, ⟨m0, w0⟩, turn⟩ := h
  refine codeAny_loop rfl (fun n s' => ∃ i ys σ' H', Inv (blkCx X sc N' cl s0 H0 fp) [] σ' H' s' ∧ tn i s'.heap ∧ (∀ b ∈ fp, H' b = none) ∧ W i n ys σ' H') (fun n s1 hI => ?_) m0 ⟨0, [], σ0, H, I, st, fr, w0⟩
  obtain ⟨i, ys, σ1, H1, I1, st1, fr1, w1⟩ := hI
  show wpAny _ X.A ((compTurn (.ListComp elt [⟨tg, iter, ifs, 0⟩] sc pos) 0 (.ref it) (.ref l) (blkCx X sc N' cl s0 H0 fp).env).onRaise (fun x => do noteFrame x (blkCx X sc N' cl s0 H0 fp).env; theTreesLotGoes x)) _ _ s1
  refine wpAny_noted ?_
  rw [compTurn_list]
  refine wpAny_bind (wpAny_standAt (wpAny_bind ?_))
  have nope : ∀ {α : Type} {t : Sem α} {Q : α → Shared → Prop} {E : Value → Shared → Prop} {z : Shared}, wpAny (model X.prog X.w) X.A t Q (fun _ _ => False) z → wpAny (model X.prog X.w) X.A t Q E z := fun q => wpAny_mono q (fun _ _ r => r) fun _ _ f => f.elim
  rcases turn i n ys σ1 H1 w1 with ⟨stop, q⟩ | ⟨go, N, hN, step⟩
  · refine nope (thn (T.done (blkCx X sc N' cl s0 H0 fp) rfl rfl rfl hc i [] s1 σ1 H1 _ I1 (hfp fr1) st1 stop) fun r s2 ⟨hr, I2⟩ => ?_)
    subst hr
    exact wpAny_pure (hR _ _ _ I2 q)
  · refine nope (thn (T.item (blkCx X sc N' cl s0 H0 fp) rfl rfl rfl hc i [] s1 σ1 H1 _ I1 (hfp fr1) st1 go) fun r s2 ⟨u, hr, h2⟩ => ?_)
    subst hr
    refine wpAny_bind (nope (thn h2 fun _ s3 ⟨x, H3, I3, r3, y3, st3, fr3⟩ => ?_))
    have I3' := I3.pinned (hfp fr3) (T.obj _ _ st3)
    refine wpAny_bind (nope (thn (hg _ s3 σ1 H3 x u _ I3' r3 (step x H3 y3)) fun _ s4 ⟨σ4, H4, I4, q4⟩ => ?_))
    refine wpAny_bind (nope (thn (ht _ s4 σ4 H4 _ I4 q4) fun ok s5 ⟨H5, I5, q5⟩ => ?_))
    have back : ∀ {σ6 : St} {H6 : Hp} {s6 : Shared} {zs : List V}, Inv (blkCx X sc N' cl s0 H0 fp) ([] ++ pinsAt fp s3.heap) σ6 H6 s6 → N zs σ6 H6 →
        ∃ m, m < n ∧ ∃ i ys σ' H', Inv (blkCx X sc N' cl s0 H0 fp) [] σ' H' s6 ∧ tn i s6.heap ∧ (∀ b ∈ fp, H' b = none) ∧ W i m ys σ' H' := fun {σ6 H6 s6 zs} I6 n6 => by
      obtain ⟨n', hm, w6⟩ := hN zs σ6 H6 n6
      refine ⟨n', hm, i + 1, zs, σ6, H6, I6.unpinned, T.keep _ _ _ st3 fun b hb o e => (I6.pin (b, o) (List.mem_append_right _ (List.mem_append_right _ (mem_pinsAt hb e)))).1, fun b hb => ?_, w6⟩
      obtain ⟨o, e, d⟩ := T.obj _ _ st3 b hb
      exact (I6.pin (b, o) (List.mem_append_right _ (List.mem_append_right _ (mem_pinsAt hb e)))).2.1
    cases ok with
    | false =>
      exact wpAny_pure ⟨rfl, back I5 q5⟩
    | true =>
      refine wpAny_bind (wpAny_bind (nope (thn (he _ s5 σ4 H5 _ I5 q5) fun v s6 ⟨y, H6, I6, r6, q6⟩ => ?_)))
      obtain ⟨hl, hz, w6⟩ := q6
      refine wpAny_bind (nope (thn (mt_append (X := blkCx X sc N' cl s0 H0 fp) _ s6 σ4 H6 (.ref l) [y] (.ref l) [v] (fun z H7 => z = .non ∧ H7 = upd H6 l (.lst (ys ++ [y]))) I6 rfl (.cons r6 .nil) ⟨l, ys, y, rfl, rfl, hl, hz, rfl, rfl⟩) fun z s7 ⟨_, H7, I7, _, _, e7⟩ => ?_))
      subst e7
      exact wpAny_pure (wpAny_pure ⟨rfl, back I7 w6⟩)

theorem blk_run {Q : Hp → Prop} {J : It} {fp : List Addr} {it : Addr} {tn : Nat → Heap → Prop} {E : Value → Shared → Prop} {RR : Addr → Addr → Result → Shared → Prop} {osc : Scope} (hc : X.calm = true) (hos : X.env.scope = osc) (S : BlkSc X.N osc own cap sc)
    (hg : ∀ cl s H fp, PG (blkCx X sc (own ++ cap.map (·.1)) cl s H fp) tg g) (ht : ∀ cl s H fp, PTs (blkCx X sc (own ++ cap.map (·.1)) cl s H fp) ifs tt) (he : ∀ cl s H fp, PE (blkCx X sc (own ++ cap.map (·.1)) cl s H fp) elt te)
    (I : Inv X pins σ H s) (T : Turn X.prog X.w X.K tg J fp it tn) (st : tn 0 s.heap) (hf : ∀ b ∈ fp, FpOk X pins H b)
    {cl : List (Str × Addr)} (h1 : ∀ x c, cl.lookup x = some c → X.env.cells.lookup x = some c) (h2 : ∀ y ∈ sc.names, y.2 = .free → ∃ c, cl.lookup y.1 = some c)
    (h : cLoop J s.heap.objs.size g tt te (capSt own cap σ) (upd H s.heap.objs.size (.lst [])) Q)
    (hR : ∀ (s3 : Shared) (H' : Hp) (s' : Shared), (∀ b o, s.heap.get? b = some o → s3.heap.get? b = some o) → (∀ h', Heap.SameBut s3.heap.objs.size s'.heap h' → Inv X pins σ H' { s' with heap := h' }) → (∃ m, s'.heap.Ns s3.heap.objs.size m) → H' s3.heap.objs.size = none →
      X.env.locals < s3.heap.objs.size → (∀ x c, X.env.cells.lookup x = some c → c < s3.heap.objs.size) → (∀ p ∈ X.pn ++ pins, p.1 < s3.heap.objs.size) → X.s₀.heap.objs.size ≤ s3.heap.objs.size → Q H' → RR s.heap.objs.size s3.heap.objs.size (.ok .next) s') :
    wpAny (model X.prog X.w) X.A (newList []) (fun acc s3 => ∃ a, acc = .ref a ∧ wpAny (model X.prog X.w) X.A (newFunctionEnv sc X.env.globals cl [] X.env.qual none .none (some X.env)) (fun cenv s4 =>
      codeAny (model X.prog X.w) X.A (.compStart (.ListComp elt [⟨tg, iter, ifs, 0⟩] sc pos) 0 (.ref it) (.ref a) { cenv with scope := relabel sc X.env }) (RR a cenv.locals) s4) E s3) E s := by
  subst hos
  refine wpAny_newList ?_
  have I3 : Inv X pins σ (upd H s.heap.objs.size (.lst [])) { s with heap := s.heap.push { cls := .type "list", data := .seq ([] : List Value).toArray }, toks := s.toks } := I.lnew (t' := s.toks) .nil (Nat.zero_le _)
  have ob : ∀ b ∈ fp, ∃ o, s.heap.get? b = some o := fun b hb => let ⟨o, e, _⟩ := T.obj _ _ st b hb; ⟨o, e⟩
  have nb : ∀ b ∈ fp, b ≠ s.heap.objs.size := fun b hb => let ⟨o, e⟩ := ob b hb; Nat.ne_of_lt (Heap.lt_size e)
  have f3 : ∀ b ∈ fp, FpOk X pins (upd H s.heap.objs.size (.lst [])) b := fun b hb => ⟨by rw [upd_ne (nb b hb)]; exact (hf b hb).1, (hf b hb).2⟩
  have k3 : ∀ b o, s.heap.get? b = some o → (s.heap.push { cls := .type "list", data := .seq ([] : List Value).toArray }).get? b = some o := fun b o e => Heap.get?_push_of_some _ e
  generalize hS3 : ({ s with heap := s.heap.push { cls := .type "list", data := .seq ([] : List Value).toArray }, toks := s.toks } : Shared) = s3 at I3
  have e3 : s3.heap = s.heap.push { cls := .type "list", data := .seq ([] : List Value).toArray } := by rw [← hS3]
  have ob3 : ∀ b ∈ fp, ∃ o, s3.heap.get? b = some o := fun b hb => let ⟨o, e⟩ := ob b hb; ⟨o, by rw [e3]; exact k3 b o e⟩
  have lt3 : ∀ b ∈ fp, b < s3.heap.objs.size := fun b hb => let ⟨o, e⟩ := ob3 b hb; Heap.lt_size e
  refine ⟨_, rfl, ?_⟩
  refine wpAny_newFunctionEnv S.nocell (by intro y hy; simp at hy) (fun h' hn hsb => ?_) S.kind
  have k4 : ∀ b o, s3.heap.get? b = some o → h'.get? b = some o := fun b o e => hsb.extBut b o (Nat.ne_of_lt (Heap.lt_size e)) (Heap.get?_push_of_some _ e)
  have J4 : Inv (blkCx X sc (own ++ cap.map (·.1)) cl s3 (upd H s.heap.objs.size (.lst [])) fp) [] (capSt own cap σ) (upd H s.heap.objs.size (.lst [])) { s3 with heap := h', toks := s3.toks + ([] : List (Str × Value)).length } :=
    blk_inv I3 f3 ob3 S h1 h2 ⟨_, hn⟩ k4
  have st4 : tn 0 h' := T.keep _ _ _ st fun b _ o e => k4 b o (by rw [e3]; exact k3 b o e)
  have loop : codeAny (model X.prog X.w) X.A (.compLoop (.ListComp elt [⟨tg, iter, ifs, 0⟩] sc pos) 0 (.ref it) (.ref s.heap.objs.size) (blkCx X sc (own ++ cap.map (·.1)) cl s3 (upd H s.heap.objs.size (.lst [])) fp).env)
      (RR s.heap.objs.size s3.heap.objs.size) { s3 with heap := h', toks := s3.toks + ([] : List (Str × Value)).length } := by
    refine blk_loop hc T (fun {H'} hn b hb => ⟨hn b hb, Nat.ne_of_lt (lt3 b hb), fun z => ?_, .inl hb, fun x c e => (f3 b hb).2.2.2.2.1 x c (h1 x c e), fun p hp => absurd (show p ∈ ([] : List (Addr × Obj)) from hp) (by simp)⟩) (hg _ _ _ _) (ht _ _ _ _) (he _ _ _ _) J4 st4
      (fun b hb => (f3 b hb).1) h fun σ' H' s' J q => ?_
    · rcases List.mem_cons.mp (I3.stkSub b z) with z | z
      · exact (f3 b hb).2.1 z
      · exact (f3 b hb).2.2.1 z
    · obtain ⟨m, hm, _⟩ := J.loc
      exact hR s3 H' s' (fun b o e => by rw [e3]; exact k3 b o e) (fun h'' hs'' => blk_back I3 f3 J hs'') ⟨m, hm⟩ J.free I3.lt (fun x c e => let ⟨v, o, ho, _⟩ := I3.cell x c e; Heap.lt_size ho) (fun p hp => Heap.lt_size (I3.pin p hp).1) I3.sz q
  exact codeAny_compStart_list loop (T.self _ _ _ _ _ st4 loop)

theorem pe_comp {osc : Scope} (hc : X.calm = true) (hos : X.env.scope = osc) (S : BlkSc X.N osc own cap sc) (hi : PI X tg iter wi)
    (hg : ∀ cl s H fp, PG (blkCx X sc (own ++ cap.map (·.1)) cl s H fp) tg g) (ht : ∀ cl s H fp, PTs (blkCx X sc (own ++ cap.map (·.1)) cl s H fp) ifs tt) (he : ∀ cl s H fp, PE (blkCx X sc (own ++ cap.map (·.1)) cl s H fp) elt te)
    (hs : ∀ x, foldedSetIterable iter X.env x = pure x := by intro _; rfl) : PE X (.ListComp elt [⟨tg, iter, ifs, 0⟩] sc pos) (tComp wi own cap g tt te) := by
  intro pins s σ H Q I h
  obtain ⟨cl, hcl, h1, h2⟩ := clo_of (env := X.env) (sc := sc) fun y hy hf => I.ok.has y.1 (by have := S.free y hy hf; rw [← hos] at this; exact this)
  rw [eval_ListComp]
  refine wpAny_comprehension_free (use := none) rfl hs hcl S.kind S.names (thn (hi pins s σ H _ I h) fun xv s1 q1 => thn q1 fun itv s2 q2 => ?_)
  obtain ⟨it, fp, tn, J, H2, e, I2, T, st2, f2, q⟩ := q2
  subst e
  refine thn (blk_run (iter := iter) (pos := pos) (RR := fun a C r s' => compPost (model X.prog X.w) X.A X.xe none (EP X pins σ Q) (.ref a) C r s') hc hos S hg ht he I2 T st2 f2 h1 h2 (q _ I2.fresh) fun s3 H' s' _ back hm _ _ _ _ _ q' => ?_) fun acc s3 q3 => ?_
  · obtain ⟨m, hm⟩ := hm
    exact ⟨m, hm, fun h'' hs'' => ⟨.ref s2.heap.objs.size, H', back h'' hs'', rfl, q'⟩⟩
  · obtain ⟨a, rfl, q3⟩ := q3
    exact q3
def sComp (i : Nat) (wi : TI) (own : List Str) (cap : List (Str × Nat)) (g : TG) (tt : TT) (te : TE) : TS := fun D σ H => tComp wi own cap g tt te σ H fun v H1 => D.nx (σ.set i (some v)) H1
theorem ps_comp {osc : Scope} {i : Nat} {x : Str} {px spos : Pos} (hc : X.calm = true) (hos : X.env.scope = osc) (S : BlkSc X.N osc own cap sc) (hN : X.N.Nodup) (hx : X.N[i]? = some x) (hl : X.env.scope.names.lookup x = some .local)
    (hsw : swapsWith (.ListComp elt [⟨tg, iter, ifs, 0⟩] sc pos) (some (.Name x px)) spos.line X.env = pure true) (hi : PI X tg iter wi)
    (hg : ∀ cl s H fp, PG (blkCx X sc (own ++ cap.map (·.1)) cl s H fp) tg g) (ht : ∀ cl s H fp, PTs (blkCx X sc (own ++ cap.map (·.1)) cl s H fp) ifs tt) (he : ∀ cl s H fp, PE (blkCx X sc (own ++ cap.map (·.1)) cl s H fp) elt te)
    (hs : ∀ x, foldedSetIterable iter X.env x = pure x := by intro _; rfl) : PS X (.Assign [.Name x px] (.ListComp elt [⟨tg, iter, ifs, 0⟩] sc pos) spos) (sComp i wi own cap g tt te) := by
  intro pins s σ H D I h
  obtain ⟨cl, hcl, h1, h2⟩ := clo_of (env := X.env) (sc := sc) fun y hy hf => I.ok.has y.1 (by have := S.free y hy hf; rw [← hos] at this; exact this)
  rw [exec_Assign_Name_used _ _ _ _ hsw]
  refine wpAny_bind (wpAny_standAt (wpAny_bind ?_))
  show wpAny _ _ (do let _ ← comprehension (.ListComp elt [⟨tg, iter, ifs, 0⟩] sc pos) sc X.env _ (newList []) false (eval iter X.env) (some (assign (.Name x px) X.env))) _ _ s
  refine wpAny_bind (wpAny_mono (wpAny_comprehension_free (use := some (assign (.Name x px) X.env)) (Q := fun _ s' => SP X pins D .next s') rfl hs hcl S.kind S.names
    (thn (hi pins s σ H _ I h) fun xv s1 q1 => thn q1 fun itv s2 q2 => ?_)) (fun _ s' hq => wpAny_pure (wpAny_pure hq)) fun _ _ e => e)
  obtain ⟨it, fp, tn, J, H2, e, I2, T, st2, f2, q⟩ := q2
  subst e
  refine thn (blk_run (iter := iter) (pos := pos) (RR := fun a C r s' => compPost (model X.prog X.w) X.A X.xe (some (assign (.Name x px) X.env)) (fun _ s' => SP X pins D .next s') (.ref a) C r s') hc hos S hg ht he I2 T st2 f2 h1 h2 (q _ I2.fresh)
    fun s3 H' s' _ back hm fC hL hCl hP hz q' => ?_) fun acc s3 q3 => ?_
  · obtain ⟨m, hm⟩ := hm
    have I' : Inv X pins σ H' { s' with heap := s'.heap } := back s'.heap (.refl ..)
    refine wpAny_assign_Name (store_ok2 I' hN hx (.inl hl) (v := .ref s2.heap.objs.size) rfl (fun s'' I'' ⟨a, hsb, ha⟩ => ?_) (.inr hl))
    have na : a ≠ s3.heap.objs.size := by
      rcases ha with rfl | ha
      · exact Nat.ne_of_lt hL
      · exact Nat.ne_of_lt (hCl _ _ ha)
    refine ⟨m, hm.sameBut hsb (Ne.symm na), fun h'' hs'' => ⟨_, H', ?_, q'⟩⟩
    exact I''.turned (t' := s''.toks) (fun b o hb e => (hs''.2 b hb).trans e) fC (Nat.ne_of_gt hL) (.inr hz) (fun y c e => Nat.ne_of_lt (hCl y c e)) (fun p hp => Nat.ne_of_lt (hP p hp))
  · obtain ⟨a, rfl, q3⟩ := q3
    exact q3
end

theorem Inv.turnLay {X : Cx} {pins : List (Addr × Obj)} {σ : St} {H : Hp} {s : Shared} {h' : Heap} {a : Addr} {o : HO} {t' : Nat} {ch : List Addr} (I : Inv X pins σ H s) (hf : ∀ b ∈ ch, FpOk X pins H b)
    (k : ∀ b u, b ∉ ch → s.heap.get? b = some u → h'.get? b = some u) (hp : s.heap.objs.size ≤ a) (new : ObjOk X.prog X.w (upd H a o) h' a o) : Inv X pins σ (upd H a o) { s with heap := h', toks := t' } := by
  have fr : H a = none := I.hok.fresh hp
  have nt : ∀ b u, s.heap.get? b = some u → b ≠ a := fun b u q => Nat.ne_of_lt (Nat.lt_of_lt_of_le (Heap.lt_size q) hp)
  have nT : ∀ b u, H b = some u → b ≠ a := fun b u q => ne_of_none q fr
  have nc : ∀ b u, H b = some u → b ∉ ch := fun b u q z => by rw [(hf b z).1] at q; cases q
  refine I.step (g' := s.gens) (d' := s.drawn) (ch := ch) (fun b hb => ⟨(hf b hb).2.2.2.1, (hf b hb).2.1, (hf b hb).2.2.2.2.1, (hf b hb).2.2.2.2.2⟩) (fun b u _ _ hb q _ => k b u hb q) (fun b u _ _ hb q _ => ⟨u.slots, k b u hb q⟩)
    (fun b u _ q n => by rw [upd_ne (nt b u q)]; exact n) (fun b u hb q => ⟨u, k b u hb q⟩) (fun b ys q => by rw [upd_ne (nT b _ q)]; exact q) (fun b u v q => by rw [upd_ne (nT b _ q)]; exact q) (fun b ps q => ⟨#[], by rw [upd_ne (nT b _ q), q]; simp⟩) (fun m hm => ?_) (fun b u q => ?_) I.bare
  · obtain ⟨ob, es, ep, ho, r⟩ := hm
    exact ⟨ob, es, ep, k _ ob (fun z => (hf _ z).2.1 rfl) ho, r⟩
  · by_cases hb : b = a
    · subst hb
      rw [upd_same] at q
      cases q
      exact new
    · rw [upd_ne hb] at q
      refine (I.hok b u q).stay (fun c v hc z => k c v ?_ z) (fun c z => by rw [upd_ne (nT c _ z)]; exact z) fun c ys z => by rw [upd_ne (nT c _ z)]; exact z
      rcases hc with rfl | hc
      · exact nc _ _ q
      · exact nc _ _ hc

section
variable {X : Cx}
end

section
variable {l : Addr} {g : TG} {tt : TT} {te : TE} {σ0 : St} {H : Hp} {Q : Hp → Prop}
theorem c_list {K : PySem.W.Frag} {a : Addr} {xs : List V} (Pv : Nat → List V → St → Hp → Prop) (h0 : Pv 0 [] σ0 H) (hl : ∀ i ys σ H, i ≤ xs.length → Pv i ys σ H → SqL K H a xs)
    (hs : ∀ i x ys σ H, xs[i]? = some x → Pv i ys σ H → g x σ H fun σ2 H2 => tt σ2 H2 fun b H3 =>
      if b = true then te σ2 H3 fun y H4 => H4 l = some (.lst ys) ∧ ys.length < sizeLine ∧ Pv (i + 1) (ys ++ [y]) σ2 (upd H4 l (.lst (ys ++ [y]))) else Pv (i + 1) ys σ2 H3)
    (hd : ∀ ys σ H, Pv xs.length ys σ H → Q H) : cLoop (Itl K a) l g tt te σ0 H Q := by
  refine ⟨fun i m ys σ H => m = xs.length - i ∧ i ≤ xs.length ∧ Pv i ys σ H, ⟨xs.length, by simp, Nat.zero_le _, h0⟩, ?_⟩
  rintro i m ys σ H ⟨rfl, hi, p⟩
  have q := hl i ys σ H hi p
  by_cases hlt : i < xs.length
  · refine .inr ⟨⟨xs, xs[i], q, by simp [hlt]⟩, Pv (i + 1), fun zs σ' H' z => ⟨xs.length - (i + 1), by omega, rfl, hlt, z⟩, fun x H' y => ?_⟩
    obtain ⟨e, y⟩ := y
    subst e
    exact hs i x ys σ _ (y xs q) p
  · have e : i = xs.length := by omega
    subst e
    exact .inl ⟨⟨xs, q, Nat.le_refl _⟩, hd ys σ H p⟩
theorem c_range {lo : Int} {n : Nat} (Pv : Nat → List V → St → Hp → Prop) (h0 : Pv 0 [] σ0 H)
    (hs : ∀ i ys σ H, i < n → Pv i ys σ H → g (.int (lo + i)) σ H fun σ2 H2 => tt σ2 H2 fun b H3 =>
      if b = true then te σ2 H3 fun y H4 => H4 l = some (.lst ys) ∧ ys.length < sizeLine ∧ Pv (i + 1) (ys ++ [y]) σ2 (upd H4 l (.lst (ys ++ [y]))) else Pv (i + 1) ys σ2 H3)
    (hd : ∀ ys σ H, Pv n ys σ H → Q H) : cLoop (Itr lo n) l g tt te σ0 H Q := by
  refine ⟨fun i m ys σ H => m = n - i ∧ i ≤ n ∧ Pv i ys σ H, ⟨n, by simp, Nat.zero_le _, h0⟩, ?_⟩
  rintro i m ys σ H ⟨rfl, hi, p⟩
  by_cases hlt : i < n
  · refine .inr ⟨hlt, Pv (i + 1), fun zs σ' H' z => ⟨n - (i + 1), by omega, rfl, hlt, z⟩, fun x H' y => ?_⟩
    obtain ⟨e, y⟩ := y
    subst e y
    exact hs i ys σ _ hlt p
  · have e : i = n := by omega
    subst e
    exact .inl ⟨Nat.le_refl _, hd ys σ H p⟩
end
section
variable {X : Cx} {tg : Expr}
def iSeq (K : PySem.W.Frag) (tl : TE) : TI := fun σ H R => tl σ H fun x H1 => (∃ a, x = .ref a ∧ (∃ xs, SqL K H1 a xs) ∧ R (Itl K a) H1) ∨ ∃ a, x = .ref a ∧ (∃ xs, SqT K H1 a xs) ∧ R (Itt K a) H1
theorem pi_seq {l : Expr} {tl : TE} (hl : PE X l tl) : PI X tg l (iSeq X.K tl) := by
  intro pins s σ H R I h
  refine thn (hl pins s σ H _ I h) fun v s1 ⟨x, H1, I1, r1, q1⟩ => ?_
  have f : ∀ {b : Addr}, b ∈ [s1.heap.objs.size] → FpOk X pins H1 b := fun {b} hb => by
    have e : b = s1.heap.objs.size := by simpa using hb
    subst e
    exact I1.fpOk (Nat.le_refl _) (I1.hok.fresh (Nat.le_refl _))
  rcases q1 with ⟨a, rfl, ⟨xs, hq⟩, q⟩ | ⟨a, rfl, ⟨xs, hq⟩, q⟩
  · cases r1
    obtain ⟨its, rv, p, hz⟩ := I1.list hq
    exact wpAny_pyIter_list p.isList ⟨s1.heap.objs.size, [s1.heap.objs.size], _, _, H1, rfl, I1.kept (t' := s1.toks) fun b o e => Heap.get?_push_of_some _ e, turn_list a _, ⟨_, Heap.get?_push_size _ rfl, rfl, rfl⟩, fun b hb => f hb, q⟩
  · cases r1
    obtain ⟨its, rv, p, hz⟩ := I1.tuple hq
    exact wpAny_pyIter_tuple (show s1.heap.IsTuple a its.toArray from p) ⟨s1.heap.objs.size, [s1.heap.objs.size], _, _, H1, rfl, I1.kept (t' := s1.toks) fun b o e => Heap.get?_push_of_some _ e, turn_tuple a _, ⟨_, Heap.get?_push_size _ rfl, rfl, rfl⟩, fun b hb => f hb, q⟩
end
end L2
namespace L2
open PySem PySem.Spec PyProof.Rows

mutual
def Dt (K : PySem.W.Frag) (H : Hp) : PyData → V → Prop
  | .none, v => v = .non
  | .bool b, v => v = .bl b
  | .int i, v => v = .int i
  | .str x, v => v = .str x
  | .list ds, v => ∃ a xs, v = .ref a ∧ SqL K H a xs ∧ DtAll K H ds xs
  | .tuple ds, v => ∃ a xs, v = .ref a ∧ SqT K H a xs ∧ DtAll K H ds xs
  | .dict _, _ => False
def DtAll (K : PySem.W.Frag) (H : Hp) : List PyData → List V → Prop
  | [], vs => vs = []
  | d :: ds, vs => ∃ v r, vs = v :: r ∧ Dt K H d v ∧ DtAll K H ds r
end

theorem Same.tupq {K : PySem.W.Frag} {H H' : Hp} {a : Addr} {xs : List V} (e : Same H H') (h : SqT K H a xs) : SqT K H' a xs := by
  rcases h with (h | ⟨o, h⟩) | h
  · exact .inl (.inl (e _ _ h))
  · exact .inl (.inr ⟨o, e _ _ h⟩)
  · exact .inr h
theorem Same.put {H0 H : Hp} {l : Addr} {o : HO} (s : Same H0 H) (h : H0 l = none) : Same H0 (upd H l o) := fun b u q => by
  rw [upd_ne (ne_of_none q h)]
  exact s b u q
theorem Same.new {H : Hp} {l : Addr} {o : HO} (h : H l = none) : Same H (upd H l o) := (Same.refl H).put h

mutual
theorem Dt.same {K : PySem.W.Frag} {H H' : Hp} (e : Same H H') : ∀ (d : PyData) (v : V), Dt K H d v → Dt K H' d v
  | .none, _, h => by unfold Dt at h ⊢; exact h
  | .bool _, _, h => by unfold Dt at h ⊢; exact h
  | .int _, _, h => by unfold Dt at h ⊢; exact h
  | .str _, _, h => by unfold Dt at h ⊢; exact h
  | .list ds, _, h => by
    unfold Dt at h ⊢
    obtain ⟨a, xs, e1, e2, e3⟩ := h
    exact ⟨a, xs, e1, e.seq e2, DtAll.same e ds xs e3⟩
  | .tuple ds, _, h => by
    unfold Dt at h ⊢
    obtain ⟨a, xs, e1, e2, e3⟩ := h
    exact ⟨a, xs, e1, e.tupq e2, DtAll.same e ds xs e3⟩
  | .dict _, _, h => by unfold Dt at h; exact h.elim
theorem DtAll.same {K : PySem.W.Frag} {H H' : Hp} (e : Same H H') : ∀ (ds : List PyData) (vs : List V), DtAll K H ds vs → DtAll K H' ds vs
  | [], _, h => by unfold DtAll at h ⊢; exact h
  | d :: ds, _, h => by
    unfold DtAll at h ⊢
    obtain ⟨v, r, e1, e2, e3⟩ := h
    exact ⟨v, r, e1, Dt.same e d v e2, DtAll.same e ds r e3⟩
end

section
variable {X : Cx} {pins : List (Addr × Obj)} {σ : St} {H : Hp} {s : Shared}
mutual
theorem Inv.reads (I : Inv X pins σ H s) : ∀ (d : PyData) (v : V) (u : Value), Dt X.K H d v → RelV v u → ∃ as, Reads s.heap u d as
  | .none, v, u, h, r => by
    unfold Dt at h; subst h; cases (show u = Value.none from r); exact ⟨_, .none⟩
  | .bool b, v, u, h, r => by
    unfold Dt at h; subst h; cases (show u = Value.bool b from r); exact ⟨_, .bool b⟩
  | .int i, v, u, h, r => by
    unfold Dt at h; subst h; obtain ⟨t, rfl⟩ := (show ∃ t, u = Value.int i t from r); exact ⟨_, .int i t⟩
  | .str x, v, u, h, r => by
    unfold Dt at h; subst h; obtain ⟨t, rfl⟩ := (show ∃ t, u = Value.str x t from r); exact ⟨_, .str x t⟩
  | .list ds, v, u, h, r => by
    unfold Dt at h
    obtain ⟨a, xs, rfl, hq, hs⟩ := h
    cases (show u = Value.ref a from r)
    obtain ⟨its, rv, pl, _⟩ := I.list hq
    obtain ⟨as, ra⟩ := Inv.readsAll I ds xs its hs rv
    obtain ⟨o, n, h1, h2, _, h3⟩ := pl
    exact ⟨_, .list h1 h2 h3 (by simpa using ra)⟩
  | .tuple ds, v, u, h, r => by
    unfold Dt at h
    obtain ⟨a, xs, rfl, hq, hs⟩ := h
    cases (show u = Value.ref a from r)
    obtain ⟨its, rv, pl, _⟩ := I.tuple hq
    obtain ⟨as, ra⟩ := Inv.readsAll I ds xs its hs rv
    obtain ⟨o, h1, h2, n, h3⟩ := pl
    exact ⟨_, .tuple h1 h2 h3 (by simpa using ra)⟩
  | .dict _, v, u, h, r => by unfold Dt at h; exact h.elim
theorem Inv.readsAll (I : Inv X pins σ H s) : ∀ (ds : List PyData) (vs : List V) (us : List Value), DtAll X.K H ds vs → Vals vs us → ∃ as, ReadsAll s.heap us ds as
  | [], vs, us, h, r => by
    unfold DtAll at h; subst h; cases r; exact ⟨_, .nil⟩
  | d :: ds, vs, us, h, r => by
    unfold DtAll at h
    obtain ⟨v, q, rfl, h1, h2⟩ := h
    cases r with
    | cons r1 r2 =>
      obtain ⟨as, ra⟩ := Inv.reads I d v _ h1 r1
      obtain ⟨bs, rb⟩ := Inv.readsAll I ds q _ h2 r2
      exact ⟨_, .cons ra rb⟩
end
def rEqD (K : PySem.W.Frag) (neg : Bool) : R2 := fun x y H Q => ∃ d e, Dt K H d x ∧ Dt K H e y ∧ SeqAt.shaped d = true ∧ SeqAt.shaped e = true ∧ Q (.bl (if neg then !PyData.eqv d e else PyData.eqv d e)) H
theorem op_neD (hu : X.A.units + 64 < cLine) : OpR X (compareOp .NotEq) (rEqD X.K true) := by
  intro pins s σ H x y v u Q I rx ry h
  obtain ⟨d, e, h1, h2, s1, s2, q⟩ := h
  obtain ⟨as, ra⟩ := I.reads d x v h1 rx
  obtain ⟨bs, rb⟩ := I.reads e y u h2 ry
  exact ne_dataH ra rb s1 s2 hu ⟨.bl _, H, I, rfl, q⟩
end

def dI (ns : List Int) : PyData := .list (ns.map .int)
def dII (nss : List (List Int)) : PyData := .list (nss.map dI)
theorem dtAll_map {α : Type} {K : PySem.W.Frag} {H : Hp} {f : α → PyData} {F : α → V → Prop} (hf : ∀ x v, F x v → Dt K H (f x) v) : ∀ {xs : List α} {vs : List V}, Paired F xs vs → DtAll K H (xs.map f) vs
  | _, _, .nil => by unfold DtAll; rfl
  | _, _, .cons h t => by
    rw [List.map_cons]
    unfold DtAll
    exact ⟨_, _, rfl, hf _ _ h, dtAll_map hf t⟩
theorem dtAll_ints {K : PySem.W.Frag} {H : Hp} : ∀ ns : List Int, DtAll K H (ns.map .int) (ns.map V.int)
  | [] => by rw [List.map_nil, List.map_nil]; unfold DtAll; rfl
  | n :: r => by
    rw [List.map_cons, List.map_cons]
    unfold DtAll
    exact ⟨_, _, rfl, by unfold Dt; rfl, dtAll_ints r⟩
theorem dt_I {K : PySem.W.Frag} {H : Hp} {a : Addr} {ns : List Int} (h : SqL K H a (ns.map V.int)) : Dt K H (dI ns) (.ref a) := by
  unfold dI Dt
  exact ⟨a, _, rfl, h, dtAll_ints ns⟩
theorem dt_II {K : PySem.W.Frag} {H : Hp} {a : Addr} {vs : List V} {nss : List (List Int)} (h : SqL K H a vs) (hs : Paired (fun ns v => ∃ b, v = V.ref b ∧ SqL K H b (ns.map V.int)) nss vs) : Dt K H (dII nss) (.ref a) := by
  unfold dII Dt
  exact ⟨a, _, rfl, h, dtAll_map (fun ns v ⟨b, e, q⟩ => by rw [e]; exact dt_I q) hs⟩
theorem eqvAll_map {α : Type} [DecidableEq α] {f : α → PyData} (hf : ∀ x y, PyData.eqv (f x) (f y) = decide (x = y)) : ∀ xs ys : List α, PyData.eqvAll (xs.map f) (ys.map f) = decide (xs = ys)
  | [], [] => by simp [PyData.eqvAll]
  | [], _ :: _ => by simp [PyData.eqvAll]
  | _ :: _, [] => by simp [PyData.eqvAll]
  | a :: r, b :: t => by
    simp only [List.map_cons, PyData.eqvAll, hf, eqvAll_map hf r t]
    by_cases h : a = b <;> by_cases h' : r = t <;> simp [h, h']
theorem eqv_int (x y : Int) : PyData.eqv (.int x) (.int y) = decide (x = y) := by
  simp only [PyData.eqv]
  exact Bool.beq_eq_decide_eq x y
theorem eqv_I (xs ys : List Int) : PyData.eqv (dI xs) (dI ys) = decide (xs = ys) := by
  unfold dI
  simp only [PyData.eqv]
  exact eqvAll_map eqv_int xs ys
theorem eqv_II (xs ys : List (List Int)) : PyData.eqv (dII xs) (dII ys) = decide (xs = ys) := by
  unfold dII
  simp only [PyData.eqv]
  exact eqvAll_map eqv_I xs ys
theorem layAll_map {α : Type} {f : α → PyData} (hf : ∀ x, (f x).canLay0 = true) : ∀ xs : List α, PyData.canLayAll0 (xs.map f) = true
  | [] => by simp [PyData.canLayAll0]
  | x :: r => by simp only [List.map_cons, PyData.canLayAll0, hf x, layAll_map hf r, Bool.and_true]
theorem depAll_map {α : Type} {f : α → PyData} {n : Nat} (hf : ∀ x, (f x).depth ≤ n) : ∀ xs : List α, PyData.depthAll (xs.map f) ≤ n
  | [] => by simp [PyData.depthAll]
  | x :: r => by
    have h1 := hf x
    have h2 := depAll_map hf r
    simp only [List.map_cons, PyData.depthAll]
    omega
theorem lay_I (ns : List Int) : (dI ns).canLay0 = true := by
  unfold dI
  simp only [PyData.canLay0]
  exact layAll_map (fun _ => by simp [PyData.canLay0]) ns
theorem dep_I (ns : List Int) : (dI ns).depth ≤ 1 := by
  unfold dI
  simp only [PyData.depth]
  have := depAll_map (f := PyData.int) (n := 0) (fun _ => by simp [PyData.depth]) ns
  omega
theorem lay_II (nss : List (List Int)) : (dII nss).canLay0 = true := by
  unfold dII
  simp only [PyData.canLay0]
  exact layAll_map lay_I nss
theorem dep_II (nss : List (List Int)) : (dII nss).depth ≤ 2 := by
  unfold dII
  simp only [PyData.depth]
  have := depAll_map (f := dI) (n := 1) dep_I nss
  omega
theorem shaped_of {d : PyData} {n : Nat} (h : d.canLay0 = true) (h2 : d.depth ≤ n) (h3 : n ≤ 64) : SeqAt.shaped d = true := by
  unfold SeqAt.shaped
  rw [h, Bool.true_and]
  exact decide_eq_true (Nat.le_trans h2 h3)
theorem shaped_II (nss : List (List Int)) : SeqAt.shaped (dII nss) = true := shaped_of (lay_II nss) (dep_II nss) (by decide)

section
variable {X : Cx}

theorem spl_one {M : Model} {A : Around} {E : Value → Shared → Prop} {s : Shared} {env : Env} {e : Expr} {pos : Pos} {Q : List Value → Shared → Prop} (hs : starEach [e] env = [(false, eval e env)]) (h : wpAny M A (eval e env) (fun v s1 => Q [v] s1) E s) :
    wpAny M A (spliced (backTo pos (starEach [e] env))) Q E s := by
  rw [hs]
  show wpAny _ _ (spliced ((false, eval e env) :: [])) _ _ s
  exact Calls.spliced_cons (thn h fun v s1 q => Calls.spliced_nil q)
def tLRange (te : TE) : TE := fun σ H Q => te σ H fun x H1 => ∃ n : Nat, x = .int n ∧ n ≤ 1000 ∧ ∀ l, H1 l = none → Q (.ref l) (upd H1 l (.lst ((List.range n).map fun (i : Nat) => V.int i)))
theorem pe_listRange {e : Expr} {te : TE} {p1 p2 q1 q2 : Pos} (hg : Gl X "list") (hm : X.mg "list" = none) (hg2 : Gl X "range") (hm2 : X.mg "range" = none) (hc : X.calm = true) (he : PE X e te)
    (hs : starEach [e] X.env = [(false, eval e X.env)] := by rfl) (hs2 : starEach [.Call (.Name "range" p2) [e] [] q2] X.env = [(false, eval (.Call (.Name "range" p2) [e] [] q2) X.env)] := by rfl) :
    PE X (.Call (.Name "list" p1) [.Call (.Name "range" p2) [e] [] q2] [] q1) (tLRange te) := by
  intro pins s σ H Q I h
  refine wpAny_Call_Name_kw (ld_blt I hg hm boot_list ?_)
  refine PyProof.Rows.callWith_type1 (spl_one hs2 ?_) hs2 rfl
  refine Call_ (ld_blt I hg2 hm2 boot_range (PyProof.Rows.callWith_type1 (spl_one hs (thn (he pins s σ H _ I h) fun u s1 ⟨x, H1, I1, r1, q⟩ => ?_)) hs rfl))
  obtain ⟨n, rfl, hn, q⟩ := q
  obtain ⟨t, rfl⟩ := (show ∃ t, u = Value.int n t from r1)
  refine call_range_1 ?_
  have I2 : Inv X pins σ H1 { s1 with heap := s1.heap.push { cls := .type "range", data := .fields #[.int 0 s1.toks, .int n t, .int 1 (s1.toks + 1)] }, toks := s1.toks + 1 + 1 } := I1.kept fun b o z => Heap.get?_push_of_some _ z
  refine call_list_range (n := n) (I2.ok.hd hc) (IsRange.new ..) (small_one (by omega) (by omega) (by omega) (by omega)) (by rw [rangeSize_one]; split <;> omega) (by omega) fun h' tk acc c' hk hS hacc => ?_
  refine ⟨.ref _, _, I2.laid (t' := tk) hk (Nat.le_refl _) ?_, rfl, q _ (I2.hok.fresh (Nat.le_refl _))⟩
  refine ⟨by rw [List.length_map, List.length_range]; exact Nat.le_trans hn (by decide), acc.toList, c', ?_, by rw [Array.toArray_toList]; exact hS⟩
  obtain ⟨a1, a2⟩ := hacc
  have key : ∀ (k : Nat) (l : List Value), l.length = k → (∀ j v, l[j]? = some v → ∃ t, v = Value.int ((0 : Int) + (j : Nat) * 1) t) → Vals ((List.range k).map fun (i : Nat) => V.int i) l := by
    intro k
    induction k with
    | zero => intro l hl _; cases l with
      | nil => exact .nil
      | cons _ _ => cases hl
    | succ k ih =>
      intro l hl hj
      have hne : l ≠ [] := by intro z; rw [z] at hl; cases hl
      have hd : l = l.dropLast ++ [l.getLast hne] := (List.dropLast_concat_getLast hne).symm
      have hlen : l.dropLast.length = k := by rw [List.length_dropLast]; omega
      rw [List.range_succ, List.map_append, hd]
      refine Vals.append (ih l.dropLast hlen fun j v hv => hj j v ?_) (.cons ?_ .nil)
      · rw [hd, List.getElem?_append_left (List.getElem?_eq_some_iff.mp hv).1]; exact hv
      · obtain ⟨t, e⟩ := hj k (l.getLast hne) (by
          have z := List.getLast?_eq_getElem? (l := l)
          rw [List.getLast?_eq_some_getLast hne] at z
          rw [show k = l.length - 1 by omega]
          exact z.symm)
        exact ⟨t, by rw [e]; simp⟩
  exact key n acc.toList (by simpa using a1) fun j v hv => a2 j v (by simpa using hv)
end
end L2
namespace L2
open PySem PySem.Spec PyProof.Rows

section
variable {prog : Program} {w : World} {A : Around} {E : Value → Shared → Prop} {s : Shared}
theorem rv_nolen : typeLookup (.type "list_reverseiterator") "__len__" = pure none := by rw [typeLookup_type, builtinLookup_eq_fast]; kernel_rfl
theorem rv_hint : typeLookup (.type "list_reverseiterator") "__length_hint__" = pure (some (.builtin "list_reverseiterator.__length_hint__")) := by rw [typeLookup_type, builtinLookup_eq_fast]; kernel_rfl
theorem rv_room {it l : Addr} {i : Int} {Q : Bool → Shared → Prop} (hT : s.heap.IsRevIter it l i) (h : Q false s) : wpAny (model prog w) A (Builtin.List.listLengthHint (.ref it)) Q E s := by
  unfold Builtin.List.listLengthHint
  refine wpAny_bind (wpAny_specialOf hT.typeIs rv_nolen ?_)
  show wpAny _ _ (specialOf (Value.ref it) (Str.ofString "__length_hint__") >>= _) _ _ _
  refine wpAny_bind (wpAny_specialOf hT.typeIs rv_hint ?_)
  generalize hid : ("list_reverseiterator.__length_hint__" : String) = id0
  wp_delta
  rw [show splitId id0 = some ("list_reverseiterator", "__length_hint__") from by subst hid; decide +kernel]
  subst hid
  refine wpAny_bind (wpAny_isInstance (b := true) hT.typeIs (by rw [isSubtype_type]; kernel_rfl) ?_)
  exact wpAny_pure h
theorem rv_list {it l : Addr} {items : Array Value} {Q : Value → Shared → Prop} (hh : A.handled = none) (hit : s.heap.IsRevIter it l ((items.size : Int) - 1)) (hl : s.heap.IsList l items) (hz : items.size ≤ sizeLine)
    (hQ : ∀ h' tk acc c, (∀ b o, b ≠ it → s.heap.get? b = some o → h'.get? b = some o) → h'.get? s.heap.objs.size = some { cls := .type "list", dict := none, data := .seq acc c, slots := #[] } →
      ItemsOf (fun i v => items[items.size - 1 - i]? = some v) acc items.size → Q (.ref s.heap.objs.size) { s with heap := h', toks := tk }) : wpAny (model prog w) A (call (.type "list") [.ref it]) Q E s := by
  have ilt : it < s.heap.objs.size := by obtain ⟨_, q, _⟩ := hit; exact Heap.lt_size q
  have llt : l < s.heap.objs.size := by obtain ⟨_, q, _⟩ := hl; exact Heap.lt_size q
  have hne : l ≠ it := fun z => by
    obtain ⟨o, q, c, _⟩ := hit
    obtain ⟨o', q', c', _⟩ := hl
    rw [z, q] at q'
    have e : o = o' := Option.some.inj q'
    rw [e, c'] at c
    exact absurd (Value.type.inj c) (by decide)
  refine callType_codes (Q₁ := fun obj s₁ => obj = .ref s.heap.objs.size ∧ s₁ = { s with heap := s.heap.push { cls := .type "list", data := .seq #[] } }) F.called_list (F.typeCall_list_1 _) F.entry_list_init
    (code_list_new _ ⟨rfl, rfl⟩) fun obj s₁ h₁ => ?_
  obtain ⟨rfl, rfl⟩ := h₁
  have hS : (s.heap.push { cls := .type "list", data := .seq #[] }).get? s.heap.objs.size = some { cls := .type "list", data := .seq #[] } := Heap.get?_push_size _ rfl
  refine ⟨⟨_, hS, rfl⟩, F.args_list_init_2 _ _, ?_⟩
  show wpAny _ _ (do let old ← Builtin.List.listItems (.ref s.heap.objs.size); Builtin.List.listUpdate (.ref s.heap.objs.size) (fun _ => #[]); letGo old.toList.reverse; Builtin.List.listExtendWith (.ref s.heap.objs.size) (.ref it) .none) _ _ _
  refine wpAny_bind ?_
  unfold Builtin.List.listItems
  refine wpAny_bind (wpAny_seqItems hS rfl (wpAny_pure ?_))
  show wpAny _ _ (updateSeq s.heap.objs.size (fun _ => #[]) >>= fun _ => letGo (#[] : Array Value).toList.reverse >>= fun _ => Builtin.List.listExtendWith (.ref s.heap.objs.size) (.ref it) .none) _ _ _
  refine wpAny_bind (wpAny_updateSeq hS rfl ?_)
  have hS₂ := Heap.get?_update_self (Obj.mapSeq (fun _ => (#[] : Array Value))) hS rfl
  refine wpAny_bind (wpAny_letGo ?_)
  generalize hH : (s.heap.push { cls := .type "list", data := .seq #[] }).update s.heap.objs.size (Obj.mapSeq (fun _ => (#[] : Array Value))) = h2 at hS₂
  have k2 : ∀ b o, s.heap.get? b = some o → h2.get? b = some o := fun b o e => by
    rw [← hH]
    exact (Heap.get?_update_other _ _ (Nat.ne_of_gt (Heap.lt_size e))).trans (Heap.get?_push_of_some _ e)
  have hit2 : h2.IsRevIter it l ((items.size : Int) - 1) := hit.at fun o e => k2 it o e
  have hl2 : h2.IsList l items := hl.at fun o e => k2 l o e
  unfold Builtin.List.listExtendWith
  refine wpAny_bind (wpAny_typeOf (s := { s with heap := h2 }) hit2.typeIs ?_)
  have h1 : Builtin.List.listSameRef (.ref s.heap.objs.size) (.ref it) = false := by simp [Builtin.List.listSameRef, Nat.ne_of_gt ilt]
  rw [if_neg (by rw [h1]; decide)]
  refine wpAny_bind (wpAny_pyIter_revIter (s := { s with heap := h2 }) hit2 ?_)
  refine wpAny_bind (wpAny_holding (rv_room (s := { s with heap := h2 }) hit2 ?_))
  rw [if_neg (by decide)]
  have W := Walks.listRev (prog := prog) (w := w) (A := A.in1.in1) hh it l hne items
  have hSf : s.heap.objs.size ∉ [it, l] := by simp only [List.mem_cons, List.not_mem_nil, or_false, not_or]; exact ⟨Nat.ne_of_gt ilt, Nat.ne_of_gt llt⟩
  refine wpAny_pure ⟨plainId_quiet F.plain_extend_loop _, codeAny_extend_loopS (A := A.in1) W.toS hz _ hSf _ items.size 0 { s with heap := h2 } #[] _ rfl (Nat.zero_le _) ⟨Nat.zero_le _, by simpa using hit2, hl2⟩ hS₂ (ItemsOf.nil _) fun s' acc c hm hS' hacc => ?_⟩
  rw [Moved.eq_with hm]
  refine ⟨rfl, hQ s'.heap s'.toks acc c (fun b o hb e => hm.heap b o (fun hmem => ?_) (k2 b o e)) hS' hacc⟩
  rcases List.mem_cons.mp hmem with z | hmem
  · exact absurd (Heap.lt_size e) (by rw [z]; exact Nat.lt_irrefl _)
  · exact hb (List.mem_singleton.mp hmem)
end
theorem vals_rev : ∀ {xs : List V} {its : List Value} {l : List Value}, Vals xs its → l.length = its.length → (∀ j v, l[j]? = some v → its[its.length - 1 - j]? = some v) → Vals xs.reverse l := by
  intro xs its l h hl hj
  have e : l = its.reverse := by
    refine List.ext_getElem? fun j => ?_
    by_cases hlt : j < l.length
    · have q := hj j l[j] (by simp [hlt])
      rw [List.getElem?_reverse (by omega), q]
      simp [hlt]
    · rw [List.getElem?_eq_none (by omega), List.getElem?_eq_none (by rw [List.length_reverse]; omega)]
  rw [e]
  exact h.reverse
section
variable {X : Cx}
def tLRev (K : PySem.W.Frag) (te : TE) : TE := fun σ H Q => te σ H fun x H1 => ∃ a xs, x = .ref a ∧ SqL K H1 a xs ∧ ∀ l, H1 l = none → Q (.ref l) (upd H1 l (.lst xs.reverse))
theorem pe_listRev {e : Expr} {te : TE} {p1 p2 q1 q2 : Pos} (hg : Gl X "list") (hm : X.mg "list" = none) (hg2 : Gl X "reversed") (hm2 : X.mg "reversed" = none) (hc : X.calm = true) (he : PE X e te)
    (hs : starEach [e] X.env = [(false, eval e X.env)] := by rfl) (hs2 : starEach [.Call (.Name "reversed" p2) [e] [] q2] X.env = [(false, eval (.Call (.Name "reversed" p2) [e] [] q2) X.env)] := by rfl) :
    PE X (.Call (.Name "list" p1) [.Call (.Name "reversed" p2) [e] [] q2] [] q1) (tLRev X.K te) := by
  intro pins s σ H Q I h
  refine wpAny_Call_Name_kw (ld_blt I hg hm PyProof.Rows.boot_list ?_)
  refine PyProof.Rows.callWith_type1 (spl_one hs2 ?_) hs2 rfl
  refine Call_ (ld_blt I hg2 hm2 boot_reversed (PyProof.Rows.callWith_type1 (spl_one hs (thn (he pins s σ H _ I h) fun u s1 ⟨x, H1, I1, r1, q⟩ => ?_)) hs rfl))
  obtain ⟨a, xs, rfl, hq, q⟩ := q
  cases (show u = Value.ref a from r1)
  obtain ⟨its, rv, pl, hz⟩ := I1.list hq
  have hlen := rv.length
  refine call_reversed_list pl.isList ?_
  have I2 : Inv X pins σ H1 { s1 with heap := s1.heap.push (revObj a ((its.toArray.size : Int) - 1)), toks := s1.toks } := I1.kept fun b o z => Heap.get?_push_of_some _ z
  have fr : H1 s1.heap.objs.size = none := I1.hok.fresh (Nat.le_refl _)
  obtain ⟨_, g1, g2, g3, g4, g5⟩ := I1.fpOk (H' := H1) (Nat.le_refl _) fr
  refine rv_list (s := { s1 with heap := s1.heap.push (revObj a ((its.toArray.size : Int) - 1)) }) (I2.ok.hd hc) ⟨_, Heap.get?_push_size _ rfl, rfl, rfl⟩ (pl.isList.at fun o z => Heap.get?_push_of_some _ z) (by rw [List.size_toArray]; omega) fun h' tk acc c kk hS hacc => ?_
  obtain ⟨a1, a2⟩ := hacc
  have sz : (s1.heap.push (revObj a ((its.toArray.size : Int) - 1))).objs.size = s1.heap.objs.size + 1 := Heap.size_push ..
  have fr2 : H1 (s1.heap.push (revObj a ((its.toArray.size : Int) - 1))).objs.size = none := I2.hok.fresh (Nat.le_refl _)
  refine ⟨.ref _, upd H1 _ (.lst xs.reverse), ?_, rfl, q _ fr2⟩
  have hv : Vals xs.reverse acc.toList := vals_rev rv (by rw [Array.length_toList, a1, List.size_toArray]) fun j v hj => by
    have := a2 j v (by rw [← Array.getElem?_toList]; exact hj)
    simpa using this
  refine I2.turnLay (t' := tk) (ch := [s1.heap.objs.size]) (fun b hb => ?_) (fun b o hb e => kk b o (fun z => hb (by simp [z])) e) (Nat.le_refl _) ⟨by rw [List.length_reverse]; exact hz, acc.toList, c, hv, by rw [Array.toArray_toList]; exact hS⟩
  have e' : b = s1.heap.objs.size := by simpa using hb
  subst e'
  exact ⟨fr, g1, g2, g3, g4, g5⟩
end
end L2
namespace L2
open PySem PySem.Spec PyProof.Rows
section
variable {X : Cx}
theorem call_isinst : CallR X (.builtin "isinstance") (fun xs H Q => ∃ x n t b, xs = [x, .ty n] ∧ TyOf X.K H x t ∧ PySem.W.kitOne X.K t (.type n) = some b ∧ Q (.bl b) H) := by
  intro pins s σ H xs us Q I r h
  obtain ⟨x, n, t, b, rfl, ty, e, q⟩ := h
  obtain ⟨u, v, rfl, ru, rv⟩ := vals2 r
  cases (show v = Value.type n from rv)
  exact isinst_ok I ru ty e fun tk => ⟨.bl b, H, I.tok tk, rfl, q⟩
theorem kit_same {K : PySem.W.Frag} {n : String} : PySem.W.kitOne K (.type n) (.type n) = some true := by
  unfold PySem.W.kitOne
  rw [if_pos (by simp)]
theorem kit_no {K : PySem.W.Frag} {n m : String} (h : ((Value.type n == Value.type m) = false ∧ PySem.W.kitMeta m = true ∧ (PySem.fastBuiltinMro n).map (·.contains (Value.type m)) = some false)) : PySem.W.kitOne K (.type n) (.type m) = some false := by
  obtain ⟨h1, h2, h3⟩ := h
  unfold PySem.W.kitOne PySem.W.kitCls
  rw [if_neg (by rw [h1]; decide)]
  show (if PySem.W.kitMeta m = true then PySem.W.subIn K (.type n) (.type m) else none) = some false
  rw [if_pos h2]
  exact h3
theorem kit_int_bool {K : PySem.W.Frag} : PySem.W.kitOne K (.type "int") (.type "bool") = some false := kit_no (by decide +kernel)

end
end L2
namespace L2
open PySem PySem.Spec PyProof.Rows
section
variable {X : Cx} {K : PySem.W.Frag}
theorem k_ixL (h : X.K = K) : IxR X (rIxL K) := h ▸ ix_list
theorem k_ixT (h : X.K = K) : IxR X (rIxT K) := h ▸ ix_tup
theorem k_slL (h : X.K = K) : SlR X (rSlL K) := h ▸ sl_list
theorem k_neD (h : X.K = K) (hu : X.A.units + 64 < cLine) : OpR X (compareOp .NotEq) (rEqD K true) := h ▸ op_neD hu
def rLen (K : PySem.W.Frag) : List V → Hp → VK → Prop := fun xs H Q => ∃ p ys, xs = [.ref p] ∧ (SqL K H p ys ∨ SqT K H p ys) ∧ Q (.int ys.length) H
theorem k_len (h : X.K = K) : CallR X (.builtin "len") (rLen K) := h ▸ call_len_seq
def rListOf (K : PySem.W.Frag) : List V → Hp → VK → Prop := fun xs H Q => ∃ p ys, xs = [.ref p] ∧ (SqL K H p ys ∨ SqT K H p ys) ∧ ∀ l, H l = none → Q (.ref l) (upd H l (.lst ys))
theorem k_listOf (h : X.K = K) : CallR X (.type "list") (rListOf K) := h ▸ call_list_of
def rIsinst (K : PySem.W.Frag) : List V → Hp → VK → Prop := fun xs H Q => ∃ x n t b, xs = [x, .ty n] ∧ TyOf K H x t ∧ PySem.W.kitOne K t (.type n) = some b ∧ Q (.bl b) H
theorem k_isinst (h : X.K = K) : CallR X (.builtin "isinstance") (rIsinst K) := h ▸ call_isinst
theorem k_list {tg l : Expr} {tl : TE} (h : X.K = K) (hl : PE X l tl) : PI X tg l (iList K tl) := h ▸ pi_list hl
theorem k_seq {tg l : Expr} {tl : TE} (h : X.K = K) (hl : PE X l tl) : PI X tg l (iSeq K tl) := h ▸ pi_seq hl
end
end L2
namespace L2
open PySem PySem.Spec PyProof.Rows
theorem paired_set {α β : Type} {F : α → β → Prop} {a : α} {b : β} (h : F a b) : ∀ {l₁ : List α} {l₂ : List β} {i : Nat}, Paired F l₁ l₂ → Paired F (l₁.set i a) (l₂.set i b)
  | _, _, _, .nil => .nil
  | _, _, 0, .cons _ t => .cons h t
  | _, _, i + 1, .cons q t => .cons q (paired_set h t)
theorem paired_get {α β : Type} {F : α → β → Prop} : ∀ {l₁ : List α} {l₂ : List β} {i : Nat} {b : β}, Paired F l₁ l₂ → l₂[i]? = some b → ∃ a, l₁[i]? = some a ∧ F a b
  | _, _, _, _, .nil, e => by simp at e
  | _, _, 0, _, .cons r _, e => by simp at e; subst e; exact ⟨_, rfl, r⟩
  | _, _, i + 1, b, .cons _ t, e => by
    obtain ⟨a, h1, h2⟩ := paired_get (i := i) (b := b) t (by simpa using e)
    exact ⟨a, by simpa using h1, h2⟩
theorem paired_get1 {α β : Type} {F : α → β → Prop} : ∀ {l₁ : List α} {l₂ : List β} {i : Nat} {a : α}, Paired F l₁ l₂ → l₁[i]? = some a → ∃ b, l₂[i]? = some b ∧ F a b
  | _, _, _, _, .nil, e => by simp at e
  | _, _, 0, _, .cons r _, e => by simp at e; subst e; exact ⟨_, rfl, r⟩
  | _, _, i + 1, b, .cons _ t, e => by
    obtain ⟨a, h1, h2⟩ := paired_get1 (i := i) (a := b) t (by simpa using e)
    exact ⟨a, by simpa using h1, h2⟩
theorem paired_flip {α β : Type} {F : α → β → Prop} : ∀ {l₁ : List α} {l₂ : List β}, Paired F l₁ l₂ → Paired (fun b a => F a b) l₂ l₁
  | _, _, .nil => .nil
  | _, _, .cons h t => .cons h (paired_flip t)
theorem paired_map1 {α β γ : Type} {F : γ → β → Prop} {f : α → γ} : ∀ {l₁ : List α} {l₂ : List β}, Paired (fun a b => F (f a) b) l₁ l₂ → Paired F (l₁.map f) l₂
  | _, _, .nil => .nil
  | _, _, .cons h t => .cons h (paired_map1 t)
theorem cut_ints (os : List Int) (lo hi : Option Int) : ∃ cs : List Int, cutV (os.map V.int) lo hi = cs.map V.int ∧ (∀ b ∈ cs, b ∈ os) ∧ cs.length ≤ os.length := by
  unfold cutV
  refine ⟨(os.drop (HT.sIx (os.map V.int).length 0 lo)).take (HT.sIx (os.map V.int).length (os.map V.int).length hi - HT.sIx (os.map V.int).length 0 lo), ?_, fun b hb => List.mem_of_mem_drop (List.mem_of_mem_take hb), ?_⟩
  · rw [List.map_take, List.map_drop]
  · rw [List.length_take, List.length_drop]
    omega
theorem cut_ints1 (os : List Int) : ∃ cs : List Int, cutV (os.map V.int) none (some 1) = cs.map V.int ∧ (∀ b ∈ cs, b ∈ os) ∧ cs.length ≤ 1 := by
  unfold cutV
  refine ⟨(os.drop (HT.sIx (os.map V.int).length 0 none)).take (HT.sIx (os.map V.int).length (os.map V.int).length (some 1) - HT.sIx (os.map V.int).length 0 none), ?_, fun b hb => List.mem_of_mem_drop (List.mem_of_mem_take hb), ?_⟩
  · rw [List.map_take, List.map_drop]
  · rw [List.length_take]
    have := HT.sIx_nat (os.map V.int).length (os.map V.int).length 1
    have e : HT.sIx (os.map V.int).length (os.map V.int).length (some (1 : Int)) = min 1 (os.map V.int).length := this
    rw [e]
    omega
def WL (H : Hp) (lw : Addr) (ws : List (List Int)) : Prop := ∃ as : List Addr, H lw = some (.lst (as.map V.ref)) ∧ Paired (fun b w => H b = some (.lst (w.map V.int))) as ws
def WLx (H : Hp) (lw : Addr) (ws : List (List Int)) : Prop := ∃ as : List Addr, H lw = some (.lst (as.map V.ref)) ∧ Paired (fun b w => b ≠ lw ∧ H b = some (.lst (w.map V.int))) as ws
theorem WL.same {H H' : Hp} {lw : Addr} {ws : List (List Int)} (h : WL H lw ws) (s : Same H H') : WL H' lw ws := by
  obtain ⟨as, h1, h2⟩ := h
  exact ⟨as, s _ _ h1, Paired.mapP h2 fun b w e => s _ _ e⟩
theorem WL.dt {K : PySem.W.Frag} {H : Hp} {lw : Addr} {ws : List (List Int)} (h : WL H lw ws) : Dt K H (dII ws) (.ref lw) := by
  obtain ⟨as, h1, h2⟩ := h
  exact dt_II (SqL.of h1) (paired_flip (paired_map1 (Paired.mapP h2 fun b w e => ⟨b, rfl, SqL.of e⟩)))
theorem WLx.wl {H : Hp} {lw : Addr} {ws : List (List Int)} (h : WLx H lw ws) : WL H lw ws := by
  obtain ⟨as, h1, h2⟩ := h
  exact ⟨as, h1, Paired.mapP h2 fun b w e => e.2⟩
theorem c_copy {K : PySem.W.Frag} {lw l2 : Addr} {ws : List (List Int)} {H : Hp} {Q : Hp → Prop} (hW : WL H lw ws) (hlen : ws.length ≤ 100) (f2 : H l2 = none) (q : ∀ H', Same H H' → WLx H' l2 ws → Q H') :
    cLoop (Itl K lw) l2 (gName 0) (fun _ H Q => Q true H) (tCB (rListOf K) (tCons (tVar 0) tNil)) [none] (upd H l2 (.lst [])) Q := by
  obtain ⟨as, hA, hP⟩ := hW
  have lenA : as.length = ws.length := Paired.length hP
  refine c_list (K := K) (a := lw) (xs := as.map V.ref) (fun i ys σ H' => ∃ u, σ = [u] ∧ Same H H' ∧ H' l2 = some (.lst ys) ∧ ∃ cs : List Addr, ys = cs.map V.ref ∧ Paired (fun c w => c ≠ l2 ∧ H' c = some (.lst (w.map V.int))) cs (ws.take i))
    ⟨none, rfl, Same.new f2, upd_same, [], rfl, .nil⟩ (fun i ys σ H' _ ⟨_, _, s5, _⟩ => SqL.of (s5 _ _ hA)) ?_ ?_
  · rintro i x ys σ H' hi ⟨u, rfl, s5, hL, cs, rfl, hC⟩
    rw [List.getElem?_map] at hi
    cases e : as[i]? with
    | none => rw [e] at hi; cases hi
    | some b =>
      rw [e] at hi
      obtain rfl : V.ref b = x := Option.some.inj hi
      obtain ⟨w', h1', h2'⟩ := paired_get1 hP e
      refine ⟨_, rfl, b, _, rfl, .inl (SqL.of (s5 _ _ h2')), fun c fc => ?_⟩
      have nl : l2 ≠ c := fun e => by rw [← e, hL] at fc; cases fc
      refine ⟨by rw [upd_ne nl]; exact hL, ?_, _, rfl, (s5.trans (Same.new fc)).put f2, upd_same, cs ++ [c], ?_, ?_⟩
      · rw [List.length_map, Paired.length hC]
        have := List.length_take_le' i ws
        exact small1000 (by omega)
      · rw [List.map_append]
        rfl
      · rw [List.take_add_one, h1']
        refine Paired.snoc (Paired.mapP hC fun d w ⟨n1, e⟩ => ⟨n1, ?_⟩) ⟨Ne.symm nl, ?_⟩
        · have nc : d ≠ c := fun q => by rw [q, fc] at e; cases e
          rw [upd_ne n1, upd_ne nc]
          exact e
        · rw [upd_ne (Ne.symm nl)]
          exact upd_same
  · rintro ys σ H' ⟨u, rfl, s5, hL, cs, rfl, hC⟩
    rw [List.length_map, lenA, List.take_length] at hC
    exact q H' s5 ⟨cs, hL, hC⟩
end L2
namespace L2
open PySem PySem.Spec PyProof.Rows

structure TDef (K : PySem.W.Frag) (mg : Str → Option Value) (x : Str) (st : Stmt) (ps : List Str) : Prop where
  ex : ∃ f fd, Fun K x x st f fd ∧ mg x = some (.ref f) ∧ Binds K fd ps []
structure Cal (P : Program) (w : World) (K : PySem.W.Frag) (mg : Str → Option Value) (base : Heap) (k : Nat) (x : Str) (ps : List Str) (sp : Sp) : Prop where
  ex : ∃ f fd, FnOk P w K mg base CX0 k f fd ps sp ∧ mg x = some (.ref f) ∧ PySem.W.keepIn K (.ref f) = true ∧ Binds K fd ps []
section
variable {P : Program} {w : World} {K : PySem.W.Frag} {mg : Str → Option Value} {base : Heap}
theorem TDef.ok {x : Str} {st : Stmt} {N ps : List Str} {k : Nat} {sp : Sp} (D : TDef K mg x st ps) (S : FnScope N ps (defScope st)) (len : ∀ vs H Q E, sp vs H Q E → vs.length = ps.length)
    (hbody : ∀ (f : Addr) (cdv : Value) (A : Around) (outer : List Env) (s : Shared) (H : Hp) (vs : List V) (Q : VK) (E : XK), Room k (A.deeper (envOfC x (defScope st) s.heap.objs.size f cdv)) → sp vs H Q E →
      ∃ t, PSs (cxOf CX0 P w K mg base N x (defScope st) f cdv A outer s H E).nox (defBody st) t ∧ t { nx := fun _ H' => Q .non H', rt := Q } (start N vs) H) : Cal P w K mg base (k + 1) x ps sp := by
  obtain ⟨f, fd, F, hm, hb⟩ := D.ex
  exact ⟨f, fd, F.ok S len (hbody f), hm, F.kp, hb⟩
theorem tdef_mk {x : Str} {st : Stmt} {ps : List Str} {f : Addr} {fd : FuncData} (F : Fun K x x st f fd) (hm : mg x = some (.ref f)) (hb : Binds K fd ps []) : TDef K mg x st ps := ⟨f, fd, F, hm, hb⟩
theorem pe_cal {X : Cx} {k : Nat} {x : Str} {ps : List Str} {sp : Sp} {p pos : Pos} {e : Expr} {es : List Expr} {t : TA} (C : Cal X.prog X.w X.K X.mg X.base k x ps sp) (hr : Room k X.A) (hg : Gl X x) (ha : PA X (e :: es) t)
    (hdb : (x == ("__debug__" : Str)) = false := by decide) (he : starEach (e :: es) X.env = (false, eval e X.env) :: starEach es X.env := by rfl) (hpl : (backTo pos (starEach es X.env)).any (·.1) = false := by rfl) :
    PE X (.Call (.Name x p) (e :: es) [] pos) (tCall sp [] E0 t) := by
  obtain ⟨f, fd, F, hm, hk, hb⟩ := C.ex
  exact pe_call F hr hg hm hk hb .nil pass0 ha hdb he hpl
end
theorem room64 {k : Nat} {A : Around} (r : Room k A) : A.units + 64 < cLine := r.units
end L2

namespace L2
open PySem
def tabOf (vs : List Nat) (led : Bool) : SetTable :=
  { mask := if vs.length < 5 then 7 else 31, place := vs.toArray, dummies := #[], finger := 0, led := led, moves := if vs.length < 5 then 0 else 1, plain := true }
structure Ris (vs : List Nat) : Prop where
  lt : ∀ v ∈ vs, v < 8
  up : vs.Pairwise (· < ·)
theorem Ris.nil : Ris [] := ⟨fun _ h => absurd h List.not_mem_nil, .nil⟩
theorem ris_len : ∀ {vs : List Nat} {n m : Nat}, vs.Pairwise (· < ·) → (∀ v ∈ vs, n ≤ v ∧ v < m) → vs.length ≤ m - n
  | [], _, _, _, _ => by simp
  | x :: r, n, m, h, hb => by
    rw [List.pairwise_cons] at h
    have hx := hb x List.mem_cons_self
    have ih := ris_len (vs := r) (n := x + 1) (m := m) h.2 fun v hv => ⟨h.1 v hv, (hb v (List.mem_cons_of_mem _ hv)).2⟩
    simp only [List.length_cons]
    omega
theorem Ris.len {vs : List Nat} (h : Ris vs) : vs.length ≤ 8 := ris_len (n := 0) (m := 8) h.up fun v hv => ⟨Nat.zero_le _, h.lt v hv⟩
theorem Ris.at {vs : List Nat} (h : vs.Pairwise (· < ·)) {i k x y : Nat} (hik : i < k) (hx : vs[i]? = some x) (hy : vs[k]? = some y) : x < y := by
  obtain ⟨h1, rfl⟩ := List.getElem?_eq_some_iff.mp hx
  obtain ⟨h2, rfl⟩ := List.getElem?_eq_some_iff.mp hy
  exact List.pairwise_iff_getElem.mp h i k h1 h2 hik
theorem below_go (vs : List Nat) (j : Nat) (hs : vs.Pairwise (· < ·)) : ∀ fuel lo hi, hi - lo ≤ fuel → hi ≤ vs.length → lo ≤ hi →
    (∀ i x, i < lo → vs[i]? = some x → x < j) → (∀ i x, hi ≤ i → vs[i]? = some x → j ≤ x) →
    (∀ i x, i < SetTable.below.go vs.toArray j fuel lo hi → vs[i]? = some x → x < j) ∧ (∀ i x, SetTable.below.go vs.toArray j fuel lo hi ≤ i → vs[i]? = some x → j ≤ x) ∧ SetTable.below.go vs.toArray j fuel lo hi ≤ vs.length := by
  intro fuel
  induction fuel with
  | zero =>
    intro lo hi h1 h2 h3 h4 h5
    have e : lo = hi := by omega
    subst e
    exact ⟨h4, h5, h2⟩
  | succ fuel ih =>
    intro lo hi h1 h2 h3 h4 h5
    have eg : SetTable.below.go vs.toArray j (fuel + 1) lo hi = if lo < hi then (if vs.toArray.getD ((lo + hi) / 2) j < j then SetTable.below.go vs.toArray j fuel ((lo + hi) / 2 + 1) hi else SetTable.below.go vs.toArray j fuel lo ((lo + hi) / 2)) else lo := rfl
    rw [eg]
    by_cases hlt : lo < hi
    · rw [if_pos hlt]
      have hm : (lo + hi) / 2 < vs.length := by omega
      have e : vs.toArray.getD ((lo + hi) / 2) j = vs[(lo + hi) / 2] := by
        simp [Array.getD, hm]
      have em : vs[(lo + hi) / 2]? = some vs[(lo + hi) / 2] := List.getElem?_eq_getElem hm
      rw [e]
      by_cases hc : vs[(lo + hi) / 2] < j
      · rw [if_pos hc]
        refine ih ((lo + hi) / 2 + 1) hi (by omega) h2 (by omega) (fun i x hi' hx => ?_) h5
        by_cases z : i = (lo + hi) / 2
        · subst z
          rw [em] at hx
          cases hx
          exact hc
        · exact Nat.lt_trans (Ris.at hs (by omega) hx em) hc
      · rw [if_neg hc]
        refine ih lo ((lo + hi) / 2) (by omega) (by omega) (by omega) h4 (fun i x hi' hx => ?_)
        by_cases z : i = (lo + hi) / 2
        · subst z
          rw [em] at hx
          cases hx
          omega
        · have := Ris.at hs (i := (lo + hi) / 2) (k := i) (by omega) em hx
          omega
    · rw [if_neg hlt]
      have e : lo = hi := by omega
      subst e
      exact ⟨h4, h5, h2⟩
theorem below_ok {vs : List Nat} (j : Nat) (hs : vs.Pairwise (· < ·)) :
    (∀ i x, i < SetTable.below vs.toArray j → vs[i]? = some x → x < j) ∧ (∀ i x, SetTable.below vs.toArray j ≤ i → vs[i]? = some x → j ≤ x) ∧ SetTable.below vs.toArray j ≤ vs.length := by
  unfold SetTable.below
  rw [List.size_toArray]
  exact below_go vs j hs vs.length 0 vs.length (by omega) (Nat.le_refl _) (Nat.zero_le _) (fun i x h => absurd h (Nat.not_lt_zero _)) (fun i x h hx => by
    rw [List.getElem?_eq_none h] at hx
    cases hx)
def insOf (vs : List Nat) (v : Nat) : List Nat := vs.take (SetTable.below vs.toArray v) ++ v :: vs.drop (SetTable.below vs.toArray v)
theorem ins_len (vs : List Nat) (v : Nat) : (insOf vs v).length = vs.length + 1 := by
  unfold insOf
  rw [List.length_append, List.length_cons, List.length_take, List.length_drop]
  omega
theorem ins_mem {vs : List Nat} {v x : Nat} : x ∈ insOf vs v ↔ x ∈ vs ∨ x = v := by
  unfold insOf
  rw [List.mem_append, List.mem_cons]
  constructor
  · rintro (h | h | h)
    · exact .inl (List.mem_of_mem_take h)
    · exact .inr h
    · exact .inl (List.mem_of_mem_drop h)
  · rintro (h | h)
    · rw [← List.take_append_drop (SetTable.below vs.toArray v) vs, List.mem_append] at h
      exact h.elim .inl fun z => .inr (.inr z)
    · exact .inr (.inl h)
theorem Ris.ins {vs : List Nat} {v : Nat} (h : Ris vs) (hv : v < 8) (hn : v ∉ vs) : Ris (insOf vs v) := by
  obtain ⟨b1, b2, b3⟩ := below_ok v h.up
  have c1 : ∀ x ∈ vs.take (SetTable.below vs.toArray v), x < v := fun x hx => by
    obtain ⟨i, hi, e⟩ := List.mem_iff_getElem.mp hx
    rw [List.length_take] at hi
    rw [List.getElem_take] at e
    exact b1 i x (by omega) (by rw [← e]; exact List.getElem?_eq_getElem (by omega))
  have c2 : ∀ x ∈ vs.drop (SetTable.below vs.toArray v), v < x := fun x hx => by
    obtain ⟨i, hi, e⟩ := List.mem_iff_getElem.mp hx
    rw [List.length_drop] at hi
    rw [List.getElem_drop] at e
    have := b2 (SetTable.below vs.toArray v + i) x (by omega) (by rw [← e]; exact List.getElem?_eq_getElem (by omega))
    have hne : x ≠ v := fun z => hn (z ▸ List.mem_of_mem_drop hx)
    omega
  refine ⟨fun x hx => ?_, ?_⟩
  · rcases ins_mem.mp hx with z | z
    · exact h.lt x z
    · omega
  · unfold insOf
    rw [List.pairwise_append]
    refine ⟨h.up.sublist (List.take_sublist _ _), ?_, fun x hx y hy => ?_⟩
    · rw [List.pairwise_cons]
      exact ⟨c2, h.up.sublist (List.drop_sublist _ _)⟩
    · rcases List.mem_cons.mp hy with z | z
      · rw [z]; exact c1 x hx
      · exact Nat.lt_trans (c1 x hx) (c2 y z)
theorem tab_bits {v : Nat} (hv : v < 8) : SetTable.bits (v : Int) = v := by
  unfold SetTable.bits
  have h0 : (0 : Int) ≤ (v : Int) := by omega
  have h1 : (v : Int) < (2 ^ 64 : Int) := Int.lt_trans (by omega : (v : Int) < 8) (by decide)
  rw [Int.emod_eq_of_lt h0 h1]
  exact Int.toNat_natCast v
theorem slot_empty {vs : List Nat} {led : Bool} {v : Nat} (hn : v ∉ vs) : (tabOf vs led).slot v = .empty := by
  unfold SetTable.slot
  have e1 : ((tabOf vs led).place[SetTable.below (tabOf vs led).place v]? == some v) = false := by
    show (vs.toArray[SetTable.below vs.toArray v]? == some v) = false
    rw [List.getElem?_toArray]
    cases q : vs[SetTable.below vs.toArray v]? with
    | none => rfl
    | some x =>
      have : x ∈ vs := List.mem_of_getElem? q
      have hne : x ≠ v := fun z => hn (z ▸ this)
      simpa using hne
  have e2 : SetTable.has (tabOf vs led).dummies v = false := by
    show SetTable.has #[] v = false
    unfold SetTable.has
    simp
  simp only [e1, e2]
  rfl
theorem free_tab {vs : List Nat} {led : Bool} {v : Nat} (hv : v < 8) (hn : v ∉ vs) : (tabOf vs led).freeSlot (v : Int) = some (v, false) := by
  have hm : ∃ m, (tabOf vs led).mask = m ∧ 7 ≤ m ∧ v % (m + 1) = v := by
    refine ⟨_, rfl, ?_, ?_⟩
    · show 7 ≤ if vs.length < 5 then 7 else 31
      split <;> omega
    · show v % ((if vs.length < 5 then 7 else 31) + 1) = v
      split <;> omega
  obtain ⟨m, em, h7, hmod⟩ := hm
  have ep : ((tabOf vs led).probeStart (v : Int)).j = v ∧ ((tabOf vs led).probeStart (v : Int)).dummy = none := by
    unfold SetTable.probeStart
    rw [tab_bits hv, em]
    exact ⟨hmod, rfl⟩
  have eq : (tabOf vs led).probe (fun _ => (v : Int) + 1) (v : Int) ((tabOf vs led).probeStart (v : Int)) = some (.empty v none) := by
    unfold SetTable.probe
    have ef : 10 * SetTable.turns (tabOf vs led).mask = (10 * SetTable.turns (tabOf vs led).mask - 1) + 1 := by
      unfold SetTable.turns
      omega
    rw [ef]
    unfold SetTable.probe.go
    rw [ep.1, slot_empty hn, ep.2]
  unfold SetTable.freeSlot
  rw [eq]
  rfl
theorem has_none (v : Nat) : SetTable.has #[] v = false := by
  unfold SetTable.has
  simp
theorem put_tab (vs : List Nat) (led : Bool) (v : Nat) : (tabOf vs led).put v = ({ tabOf vs led with place := SetTable.insertAt vs.toArray (SetTable.below vs.toArray v) v }, SetTable.below vs.toArray v) := by
  unfold SetTable.put
  have e : SetTable.has (tabOf vs led).dummies v = false := has_none v
  simp only [e]
  rfl
theorem laid5 : ∀ led : Bool, ∀ a : Fin 8, ∀ b : Fin 8, a < b → ∀ c : Fin 8, b < c → ∀ d : Fin 8, c < d → ∀ e : Fin 8, d < e →
    SetTable.laid 31 0 1 led true #[((a : Nat) : Int), ((b : Nat) : Int), ((c : Nat) : Int), ((d : Nat) : Int), ((e : Nat) : Int)] = some (tabOf [a.1, b.1, c.1, d.1, e.1] led, #[0, 1, 2, 3, 4]) := by decide +kernel
end L2
namespace L2
open PySem PySem.Spec PyProof.Rows
theorem tab_fits {vs : List Nat} {led : Bool} (h : Ris vs) : (tabOf vs led).fits vs.length = true := by
  have h8 := h.len
  unfold SetTable.fits SetTable.fill
  show (vs.toArray.size == vs.length && decide (vs.toArray.size + (#[] : Array Nat).size ≤ if vs.length < 5 then 7 else 31)) = true
  have e : vs.toArray.size = vs.length := List.size_toArray
  rw [e, Bool.and_eq_true]
  refine ⟨by simp, decide_eq_true ?_⟩
  show vs.length + 0 ≤ _
  split <;> omega
theorem hash_small {v : Nat} (hv : v < 8) : hashInt (v : Int) = (v : Int) := by
  match v, hv with
  | 0, _ => decide +kernel
  | 1, _ => decide +kernel
  | 2, _ => decide +kernel
  | 3, _ => decide +kernel
  | 4, _ => decide +kernel
  | 5, _ => decide +kernel
  | 6, _ => decide +kernel
  | 7, _ => decide +kernel
def EntIs (e : Int × Value) (v : Nat) : Prop := e.1 = (v : Int) ∧ ∃ t, e.2 = .int v t
def ledW (w : World) : Bool := !w.params.followText "set-order"
def Small (w : World) (h : Heap) (a : Addr) (vs : List Nat) : Prop :=
  ∃ o es ep, h.get? a = some o ∧ o.ExactSet ∧ o.data = .set es ep (tabOf vs (ledW w)) ∧ Paired EntIs es.toList vs ∧ Ris vs
theorem Small.at {w : World} {h h' : Heap} {a : Addr} {vs : List Nat} (x : Small w h a vs) (e : ∀ o, h.get? a = some o → h'.get? a = some o) : Small w h' a vs := by
  obtain ⟨o, es, ep, h1, h2⟩ := x
  exact ⟨o, es, ep, e _ h1, h2⟩
theorem paired_take {α β : Type} {F : α → β → Prop} : ∀ {l₁ : List α} {l₂ : List β} (n : Nat), Paired F l₁ l₂ → Paired F (l₁.take n) (l₂.take n)
  | _, _, 0, _ => .nil
  | _, _, _ + 1, .nil => .nil
  | _, _, n + 1, .cons h t => .cons h (paired_take n t)
theorem paired_drop {α β : Type} {F : α → β → Prop} : ∀ {l₁ : List α} {l₂ : List β} (n : Nat), Paired F l₁ l₂ → Paired F (l₁.drop n) (l₂.drop n)
  | _, _, 0, h => h
  | _, _, _ + 1, .nil => .nil
  | _, _, n + 1, .cons _ t => paired_drop n t
theorem paired_app {α β : Type} {F : α → β → Prop} : ∀ {a b : List α} {c d : List β}, Paired F a c → Paired F b d → Paired F (a ++ b) (c ++ d)
  | _, _, _, _, .nil, h => h
  | _, _, _, _, .cons h t, q => .cons h (paired_app t q)
theorem arr5 {α : Type} (x0 x1 x2 x3 x4 : α) : (#[0, 1, 2, 3, 4] : Array Nat).filterMap (#[x0, x1, x2, x3, x4][·]?) = #[x0, x1, x2, x3, x4] := by
  simp [Array.filterMap, Array.filterMapM]
theorem relay5 {es : Array (Int × Value)} {vs : List Nat} {t : SetTable} (hp : Paired EntIs es.toList vs) (h5 : vs.length = 5) (hr : Ris vs) (hm : t.mask = 7) (hf : t.finger = 0) (hmv : t.moves = 0) (hpl : t.plain = true) :
    relayAll t es 20 = (es, tabOf vs t.led, false) := by
  obtain ⟨l⟩ := es
  match vs, h5, hp, hr with
  | [a, b, c, d, e], _, hp, hr =>
    have hu := hr.up
    simp only [List.pairwise_cons, List.mem_cons, List.not_mem_nil, or_false, forall_eq_or_imp, forall_eq] at hu
    cases hp with
    | cons p0 hp => cases hp with
      | cons p1 hp => cases hp with
        | cons p2 hp => cases hp with
          | cons p3 hp => cases hp with
            | cons p4 hp =>
              cases hp
              rename_i x0 x1 x2 x3 x4
              have ha := hr.lt a (by simp)
              have hb := hr.lt b (by simp)
              have hc := hr.lt c (by simp)
              have hd := hr.lt d (by simp)
              have he := hr.lt e (by simp)
              have L := laid5 t.led ⟨a, ha⟩ ⟨b, hb⟩ hu.1.1 ⟨c, hc⟩ hu.2.1.1 ⟨d, hd⟩ hu.2.2.1.1 ⟨e, he⟩ hu.2.2.2.1
              have L : SetTable.laid 31 0 1 t.led true #[(a : Int), (b : Int), (c : Int), (d : Int), (e : Int)] = some (tabOf [a, b, c, d, e] t.led, #[0, 1, 2, 3, 4]) := L
              have hmap : (Array.map (fun x : Int × Value => x.1) ⟨[x0, x1, x2, x3, x4]⟩ : Array Int) = #[(a : Int), (b : Int), (c : Int), (d : Int), (e : Int)] := by
                simp [p0.1, p1.1, p2.1, p3.1, p4.1]
              have hrel : t.relaid #[(a : Int), (b : Int), (c : Int), (d : Int), (e : Int)] 20 = some (tabOf [a, b, c, d, e] t.led, #[0, 1, 2, 3, 4]) := by
                unfold SetTable.relaid
                have e1 : SetTable.sizeAbove 20 - 1 = 31 := by decide +kernel
                have e2 : t.movedTo 31 = 1 := by unfold SetTable.movedTo; rw [hm, hmv]; rfl
                rw [e1, e2, hf, hpl]
                exact L
              unfold relayAll
              rw [hmap, hrel]
              dsimp only
              have e3 : (#[0, 1, 2, 3, 4] : Array Nat).filterMap (fun i => (⟨[x0, x1, x2, x3, x4]⟩ : Array (Int × Value))[i]?) = ⟨[x0, x1, x2, x3, x4]⟩ := arr5 x0 x1 x2 x3 x4
              rw [e3]
              have e4 : coversAll #[0, 1, 2, 3, 4] (⟨[x0, x1, x2, x3, x4]⟩ : Array (Int × Value)).size = true := by
                show coversAll #[0, 1, 2, 3, 4] 5 = true
                decide +kernel
              have e5 : (tabOf [a, b, c, d, e] t.led).fits (⟨[x0, x1, x2, x3, x4]⟩ : Array (Int × Value)).size = true := tab_fits (led := t.led) hr
              rw [e4, e5]
              rfl
end L2
namespace L2
open PySem PySem.Spec PyProof.Rows
section
variable {prog : Program} {w : World} {A : Around} {E : Value → Shared → Prop} {s : Shared}
theorem ent_elems {es : List (Int × Value)} {vs : List Nat} (hp : Paired EntIs es vs) (h8 : ∀ v ∈ vs, v < 8) : ElemsOf (intKind prog w) es := by
  induction hp with
  | nil => intro e he; simp at he
  | @cons a b as bs h t ih =>
    intro e he
    rcases List.mem_cons.mp he with rfl | he
    · obtain ⟨h1, tk, h2⟩ := h
      have hb := h8 b List.mem_cons_self
      refine ⟨⟨(b : Int), by rw [h2]; exact intKind_is prog w _ _, ?_⟩, by rw [h2]; rfl⟩
      rw [h1]
      exact (hash_small hb).symm
    · exact ih (fun v hv => h8 v (List.mem_cons_of_mem _ hv)) e he
theorem ent_find {es : List (Int × Value)} {vs : List Nat} (hp : Paired EntIs es vs) (v : Nat) : (es.findIdx? fun e => (intKind prog w).is (v : Int) e.2) = none ↔ v ∉ vs := by
  rw [List.findIdx?_eq_none_iff]
  have key : ∀ (e : Int × Value) (b : Nat), EntIs e b → ((intKind prog w).is (v : Int) e.2 = false ↔ v ≠ b) := fun e b h => by
    obtain ⟨_, tk, h2⟩ := h
    rw [h2]
    have : (intKind prog w).is (v : Int) (.int (b : Int) tk) = decide ((v : Int) = (b : Int)) := KeyKind.is_eq_decide (intKind_is prog w _ _) _
    rw [this, decide_eq_false_iff_not]
    constructor
    · exact fun z q => z (by rw [q])
    · exact fun z q => z (by omega)
  induction hp with
  | nil => simp
  | @cons a b as bs h t ih =>
    constructor
    · intro z hm
      rcases List.mem_cons.mp hm with q | q
      · exact (key a b h).mp (z a List.mem_cons_self) q
      · exact ih.mp (fun x hx => z x (List.mem_cons_of_mem _ hx)) q
    · intro z x hx
      rcases List.mem_cons.mp hx with q | q
      · subst q
        exact (key x b h).mpr fun q => z (by rw [q]; exact List.mem_cons_self)
      · exact ih.mpr (fun q => z (List.mem_cons_of_mem _ q)) x q
def tabMid (vs : List Nat) (v : Nat) (led : Bool) : SetTable := { tabOf vs led with place := (insOf vs v).toArray }
theorem small_add {a : Addr} {vs : List Nat} {v : Nat} {t : Tok} {Q : Bool → Shared → Prop} (hS : Small w s.heap a vs) (hv : v < 8)
    (h : ∀ h' vs' b, Heap.SameBut a s.heap h' → Small w h' a vs' → (∀ x, x ∈ vs' ↔ x ∈ vs ∨ x = v) → Q b { s with heap := h' }) :
    wpAny (model prog w) A (setAddHashed a (.int v t) ((intKind prog w).hash (v : Int))) Q E s := by
  obtain ⟨o, es, ep, ho, hex, hd, hp, hr⟩ := hS
  have hlen : es.size = vs.length := by rw [← Array.length_toList]; exact Paired.length hp
  have h8 := hr.len
  have hf : (tabOf vs (ledW w)).fits es.size = true := by rw [hlen]; exact tab_fits hr
  have hb : es.size < scanBound := by unfold scanBound; omega
  have hel : ElemsOf (intKind prog w) es.toList := ent_elems hp hr.lt
  have hkey : (intKind prog w).is (v : Int) (.int (v : Int) t) = true := intKind_is prog w _ _
  have hash : (intKind prog w).hash (v : Int) = (v : Int) := hash_small hv
  have eS : s = { s with heap := s.heap } := by cases s; rfl
  unfold setAddHashed setAddHashedIn
  refine wpAny_holding (wpAny_bind (wpAny_setState_of ho hd hf ?_))
  dsimp only
  rw [byScan_of (knd := intKind prog w) rfl hb hel]
  simp only [↓reduceIte]
  unfold setAddByScan
  refine wpAny_bind ?_
  refine wpAny_bind (wpAny_rule ?_)
  refine wpAny_bind (wpAny_setScan_of hkey ho hd hf hel ?_)
  cases hq : List.findIdx? (fun e => (intKind prog w).is (v : Int) e.2) es.toList with
  | some j =>
    dsimp only
    refine wpAny_pure (wpAny_pure ?_)
    have hm : v ∈ vs := by
      by_cases z : v ∈ vs
      · exact z
      · rw [(ent_find hp v).mpr z] at hq
        cases hq
    rw [eS]
    exact h s.heap vs _ (Heap.SameBut.refl a s.heap) ⟨o, es, ep, ho, hex, hd, hp, hr⟩ fun x => ⟨.inl, fun z => z.elim id fun z => by rw [z]; exact hm⟩
  | none =>
    dsimp only
    have hn : v ∉ vs := (ent_find hp v).mp hq
    rw [hash]
    have hri := hr.ins hv hn
    have elp : (SetTable.insertAt es (SetTable.below vs.toArray v) ((v : Int), (Value.int (v : Int) t))).toList = es.toList.take (SetTable.below vs.toArray v) ++ ((v : Int), Value.int (v : Int) t) :: es.toList.drop (SetTable.below vs.toArray v) := SetTable.toList_insertAt ..
    have hp1 : Paired EntIs (SetTable.insertAt es (SetTable.below vs.toArray v) ((v : Int), (Value.int (v : Int) t))).toList (insOf vs v) := by
      rw [elp]
      exact paired_app (paired_take _ hp) (.cons ⟨rfl, t, rfl⟩ (paired_drop _ hp))
    have hz1 : (SetTable.insertAt es (SetTable.below vs.toArray v) ((v : Int), (Value.int (v : Int) t))).size = vs.length + 1 := by
      rw [← Array.length_toList, Paired.length hp1, ins_len]
    have epl : SetTable.insertAt vs.toArray (SetTable.below vs.toArray v) v = (insOf vs v).toArray := by
      apply Array.toList_inj.mp
      rw [SetTable.toList_insertAt]
      rfl
    have ft1 : (tabMid vs v (ledW w)).fits (vs.length + 1) = true := by
      unfold SetTable.fits SetTable.fill
      show ((insOf vs v).toArray.size == vs.length + 1 && decide ((insOf vs v).toArray.size + (#[] : Array Nat).size ≤ if vs.length < 5 then 7 else 31)) = true
      have e : (insOf vs v).toArray.size = vs.length + 1 := by rw [List.size_toArray, ins_len]
      have h8' := hri.len
      rw [ins_len] at h8'
      rw [e, Bool.and_eq_true]
      refine ⟨by simp, decide_eq_true ?_⟩
      show vs.length + 1 + 0 ≤ _
      split <;> omega
    have eL : layNew (tabOf vs (ledW w)) es (v : Int) (.int (v : Int) t) = (SetTable.insertAt es (SetTable.below vs.toArray v) ((v : Int), (Value.int (v : Int) t)), tabMid vs v (ledW w), false, false) := by
      unfold layNew
      rw [free_tab hv hn]
      dsimp only
      rw [put_tab, epl]
      show (SetTable.insertAt es (SetTable.below vs.toArray v) ((v : Int), (Value.int (v : Int) t)), (tabMid vs v (ledW w)).orStandIn (SetTable.insertAt es (SetTable.below vs.toArray v) ((v : Int), (Value.int (v : Int) t))).size, false, !(tabMid vs v (ledW w)).fits (SetTable.insertAt es (SetTable.below vs.toArray v) ((v : Int), (Value.int (v : Int) t))).size) = _
      unfold SetTable.orStandIn
      rw [hz1, ft1]
      rfl
    rw [eL]
    dsimp only
    generalize hes1 : SetTable.insertAt es (SetTable.below vs.toArray v) ((v : Int), (Value.int (v : Int) t)) = es1 at hp1 hz1
    have hb1 : es1.size ≤ sizeLine := fits_of_scanBound (by unfold scanBound; omega)
    refine wpAny_bind (wpAny_pure ?_)
    have hpl : (tabMid vs v (ledW w)).plain = true := rfl
    have hpk : plainKind (.int (v : Int) t) = true := rfl
    simp only [hpl, ↓reduceIte]
    rw [hashByValue_scannable 8 (x := .int (v : Int) t) rfl]
    refine wpAny_bind (wpAny_pure ?_)
    simp only [hpk, ↓reduceIte]
    refine wpAny_bind (wpAny_storeSet_of ho hd ?_ hb1)
    have ho1 : (s.heap.update a (Obj.putSet es1 (tabMid vs v (ledW w)))).get? a = some { o with data := .set es1 (ep + 1) (tabMid vs v (ledW w)) } := by
      have := Heap.get?_update_self (Obj.putSet es1 (tabMid vs v (ledW w))) ho (by rw [putSet_of _ _ hd]; rfl)
      rw [putSet_of _ _ hd] at this
      exact this
    have sb1 := Heap.SameBut.update s.heap a (Obj.putSet es1 (tabMid vs v (ledW w)))
    have full : (tabMid vs v (ledW w)).tooFull = decide ((vs.length + 1) * 5 ≥ (if vs.length < 5 then 7 else 31) * 3) := by
      unfold SetTable.tooFull SetTable.fill
      show decide (((insOf vs v).toArray.size + 0) * 5 ≥ _) = _
      rw [List.size_toArray, ins_len]
      rfl
    by_cases h4 : vs.length = 4
    · have tf : (tabMid vs v (ledW w)).tooFull = true := by
        rw [full, h4]
        rfl
      rw [tf]
      have eg : SetTable.grown es1.size = 20 := by rw [hz1, h4]; rfl
      have hm7 : (tabOf vs (ledW w)).mask = 7 := by
        show (if vs.length < 5 then 7 else 31) = 7
        rw [if_pos (by omega)]
      have hm0 : (tabOf vs (ledW w)).moves = 0 := by
        show (if vs.length < 5 then 0 else 1) = 0
        rw [if_pos (by omega)]
      have R := relay5 (t := tabMid vs v (ledW w)) hp1 (by rw [ins_len, h4]) hri hm7 rfl hm0 rfl
      simp only [Bool.not_false, Bool.true_and, ↓reduceIte]
      rw [eg, R]
      dsimp only
      refine wpAny_bind (wpAny_pure ?_)
      refine wpAny_bind (wpAny_storeSet_of ho1 rfl ?_ hb1)
      refine wpAny_pure ?_
      refine wpAny_pure ?_
      refine h _ (insOf vs v) _ (sb1.trans (Heap.SameBut.update _ a _)) ?_ fun x => ins_mem
      refine ⟨{ o with data := .set es1 (ep + 1 + 1) (tabOf (insOf vs v) (ledW w)) }, es1, ep + 1 + 1, ?_, hex, rfl, hp1, hri⟩
      have := Heap.get?_update_self (Obj.putSet es1 (tabOf (insOf vs v) (ledW w))) ho1 (by rw [putSet_of _ _ rfl]; rfl)
      rw [putSet_of _ _ rfl] at this
      exact this
    · have tf : (tabMid vs v (ledW w)).tooFull = false := by
        rw [full, decide_eq_false_iff_not]
        have h8' := hri.len
        rw [ins_len] at h8'
        split <;> omega
      rw [tf]
      simp only [Bool.not_false, Bool.true_and, Bool.false_eq_true, ↓reduceIte]
      refine wpAny_pure ?_
      refine wpAny_pure ?_
      refine h _ (insOf vs v) _ sb1 ?_ fun x => ins_mem
      refine ⟨_, es1, ep + 1, ho1, hex, ?_, hp1, hri⟩
      show Data.set es1 (ep + 1) (tabMid vs v (ledW w)) = _
      have e : (tabMid vs v (ledW w)) = tabOf (insOf vs v) (ledW w) := by
        unfold tabMid tabOf
        rw [ins_len]
        by_cases z : vs.length < 5
        · rw [if_pos z, if_pos z, if_pos (by omega), if_pos (by omega)]
        · rw [if_neg z, if_neg z, if_neg (by omega), if_neg (by omega)]
      rw [e]
end
end L2
namespace L2
open PySem PySem.Spec PyProof.Rows
section
variable {prog : Program} {w : World} {A : Around} {R : Result → Shared → Prop} {I : Addr} {fp wr : List Addr} {G : Array GenState → Array GenState → Prop} {n : Nat} {P : Nat → Value → Prop} {St : Nat → Shared → Prop}
theorem fill_loop (W : WalksS prog w A.in1 I fp wr G n P St) (S : Addr) (hSf : S ∉ fp) (val : Nat → Nat) (hval : ∀ i v, P i v → ∃ t, v = .int (val i : Nat) t) (h8 : ∀ i, i < n → val i < 8) :
    ∀ (k i : Nat) (s : Shared) (vs : List Nat), n - i = k → i ≤ n → St i s → Small w s.heap S vs → (∀ x, x ∈ vs ↔ ∃ j, j < i ∧ val j = x) →
      (∀ s' vs', Moved (S :: wr) G s s' → Small w s'.heap S vs' → (∀ x, x ∈ vs' ↔ ∃ j, j < n ∧ val j = x) → R (.ok (.ret .none)) s') →
      codeAny (model prog w) A (.builtin "set.update.loop" ⟨[.ref S, .ref I], []⟩) R s := by
  have out : S ∉ wr := fun z => hSf (W.sub _ z)
  have sub : ∀ b ∈ wr, b ∈ S :: wr := fun b z => List.mem_cons_of_mem _ z
  intro k
  induction k with
  | zero =>
    intro i s vs hk hi st hS hm hR
    have e : i = n := by omega
    subst e
    refine codeAny_builtin F.entry_set_update_loop ?_
    rw [Around.under_plainId F.plain_set_update_loop _]
    show wpAny _ A.in1 (pyNext (.ref I) >>= _) _ _ s
    refine wpAny_bind (W.done s _ _ st fun s' mv => ?_)
    exact wpAny_pure (hR s' vs (mv.mono sub) (hS.at fun o e => mv.heap S _ out e) hm)
  | succ k ih =>
    intro i s vs hk hi st hS hm hR
    have lt : i < n := by omega
    refine codeAny_builtin F.entry_set_update_loop ?_
    rw [Around.under_plainId F.plain_set_update_loop _]
    show wpAny _ A.in1 (pyNext (.ref I) >>= _) _ _ s
    refine wpAny_bind (W.item i s _ _ lt st fun v s' hP st' mv => ?_)
    obtain ⟨t, rfl⟩ := hval i v hP
    have hS' : Small w s'.heap S vs := hS.at fun o e => mv.heap S _ out e
    show wpAny _ A.in1 (holding [Value.int (val i : Nat) t] (setAdd S (.int (val i : Nat) t)) >>= _) _ _ s'
    refine wpAny_bind (wpAny_holding ?_)
    unfold setAdd
    refine wpAny_holding (wpAny_bind ((intKind prog w).pyHash (k := ((val i : Nat) : Int)) (intKind_is _ _ _ _) ?_))
    refine small_add (s := { s' with toks := s'.toks + 1 }) hS' (h8 i lt) fun h' vs' _ sb hS2 hm2 => ?_
    refine wpAny_pure ⟨plainId_quiet F.plain_set_update_loop _, ih (i + 1) _ vs' (by omega) lt (W.frame _ s' _ _ st' (Nat.le_succ _) fun b hb o e => ?_) hS2 (fun x => ?_) fun s'' vs'' mv' hS3 hm3 => ?_⟩
    · rw [sb.2 b (fun z : b = S => hSf (by rw [← z]; exact hb))]
      exact e
    · rw [hm2, hm]
      constructor
      · rintro (⟨j, h1, h2⟩ | rfl)
        · exact ⟨j, by omega, h2⟩
        · exact ⟨i, by omega, rfl⟩
      · rintro ⟨j, h1, h2⟩
        by_cases z : j = i
        · subst z
          exact .inr h2.symm
        · exact .inl ⟨j, by omega, h2⟩
    · refine hR s'' vs'' (Moved.trans W.gtrans ((mv.mono sub).then_heap (Nat.le_succ _) fun b o hb e => ?_) mv') hS3 hm3
      rw [sb.2 b (fun z : b = S => hb (by rw [z]; exact List.mem_cons_self))]
      exact e
end
theorem pick_go {α : Type} (next : Nat → Nat) : ∀ (fuel k : Nat) (left : List α) (out : Array α), left.length = fuel → (pickOrder.go next fuel k left out).toList.Perm (out.toList ++ left)
  | 0, k, left, out, h => by
    have e : left = [] := List.length_eq_zero_iff.mp h
    subst e
    unfold pickOrder.go
    simp
  | fuel + 1, k, left, out, h => by
    have hlt : next k % left.length < left.length := Nat.mod_lt _ (by omega)
    have e : left[next k % left.length]? = some left[next k % left.length] := List.getElem?_eq_getElem hlt
    unfold pickOrder.go
    rw [e]
    dsimp only
    refine (pick_go next fuel (k + 1) (left.eraseIdx (next k % left.length)) (out.push left[next k % left.length]) (by rw [List.length_eraseIdx_of_lt hlt]; omega)).trans ?_
    rw [Array.toList_push, List.append_assoc]
    refine List.Perm.append_left _ ?_
    have key : ∀ (l : List α) (j : Nat) (hj : j < l.length), ([l[j]] ++ l.eraseIdx j).Perm l := by
      intro l
      induction l with
      | nil => intro j hj; simp at hj
      | cons x r ih =>
        intro j hj
        cases j with
        | zero => simp
        | succ j =>
          have hj' : j < r.length := by simpa using hj
          have := ih j hj'
          simp only [List.getElem_cons_succ, List.eraseIdx_cons_succ, List.singleton_append] at this ⊢
          exact (List.Perm.swap x r[j] _).trans (this.cons x)
    exact key left _ hlt
theorem pick_perm {α : Type} (next : Nat → Nat) (xs : Array α) : (pickOrder next xs).toList.Perm xs.toList := by
  have := pick_go next xs.size 0 xs.toList #[] (by simp)
  unfold pickOrder
  simpa using this
def wayOf (w : World) (a : Addr) (ep : Nat) (es : Array (Int × Value)) : Array (Int × Value) := if w.params.followText "set-order" then pickOrder (w.params.setOrder a ep) es else es
theorem way_perm (w : World) (a : Addr) (ep : Nat) (es : Array (Int × Value)) : (wayOf w a ep es).toList.Perm es.toList := by
  unfold wayOf
  split
  · exact pick_perm _ _
  · exact .rfl
theorem way_size (w : World) (a : Addr) (ep : Nat) (es : Array (Int × Value)) : (wayOf w a ep es).size = es.size := by
  have := (way_perm w a ep es).length_eq
  simpa using this
def AtSlot (w : World) (vs : List Nat) (slot i : Nat) : Prop := ledW w = true → i ≤ vs.length ∧ SetTable.below vs.toArray slot = i
theorem slot_zero {w : World} {vs : List Nat} (h : Ris vs) : AtSlot w vs 0 0 := fun _ => by
  obtain ⟨b1, _, b3⟩ := below_ok 0 h.up
  refine ⟨Nat.zero_le _, ?_⟩
  by_cases z : SetTable.below vs.toArray 0 = 0
  · exact z
  · have := b1 0 vs[0] (by omega) (List.getElem?_eq_getElem (by omega))
    omega
theorem slot_next {w : World} {vs : List Nat} (h : Ris vs) {i x : Nat} (hx : vs[i]? = some x) : AtSlot w vs (x + 1) (i + 1) := fun _ => by
  obtain ⟨b1, b2, b3⟩ := below_ok (x + 1) h.up
  obtain ⟨hi, ex⟩ := List.getElem?_eq_some_iff.mp hx
  refine ⟨hi, ?_⟩
  have c1 : ¬ SetTable.below vs.toArray (x + 1) ≤ i := fun z => by
    have := b2 i x z hx
    omega
  have c2 : ¬ i + 1 < SetTable.below vs.toArray (x + 1) := fun z => by
    have hy : vs[i + 1]? = some vs[i + 1] := List.getElem?_eq_getElem (by omega)
    have q1 := b1 (i + 1) _ z hy
    have q2 := Ris.at h.up (Nat.lt_succ_self i) hx hy
    omega
  omega
section
variable {prog : Program} {w : World} {A : Around} {E : Value → Shared → Prop} {s : Shared}
theorem set_next_some {a : Addr} {o : Obj} {es : Array (Int × Value)} {ep : Nat} {vs : List Nat} {slot i : Nat} {e : Int × Value} {Q : Option (Value × Nat) → Shared → Prop}
    (ho : s.heap.get? a = some o) (hd : o.data = .set es ep (tabOf vs (ledW w))) (hp : Paired EntIs es.toList vs) (hr : Ris vs) (hs : AtSlot w vs slot i) (he : (wayOf w a ep es)[i]? = some e)
    (h : ∀ slot', AtSlot w vs slot' (i + 1) → Q (some (e.2, slot')) s) : wpAny (model prog w) A (setNext a slot i ep) Q E s := by
  have hlen : es.size = vs.length := by rw [← Array.length_toList]; exact Paired.length hp
  have hf : (tabOf vs (ledW w)).fits es.size = true := by rw [hlen]; exact tab_fits hr
  unfold setNext
  refine wpAny_bind (wpAny_setState_of ho hd hf ?_)
  dsimp only
  unfold setsByText
  refine wpAny_bind (wpAny_bind (wpAny_askSetting (wpAny_pure ?_)))
  show wpAny _ _ (if w.params.followText "set-order" = true then _ else _) _ _ _
  by_cases hb : w.params.followText "set-order" = true
  · rw [if_pos hb]
    have hw : wayOf w a ep es = pickOrder (w.params.setOrder a ep) es := by unfold wayOf; rw [if_pos hb]
    rw [hw] at he
    simp only [bne_self_eq_false, Bool.false_eq_true, if_false]
    refine wpAny_bind ?_
    unfold setWalk setsByText
    refine wpAny_bind (wpAny_setState_of ho hd hf ?_)
    dsimp only
    refine wpAny_bind (wpAny_bind (wpAny_askSetting (wpAny_pure ?_)))
    show wpAny _ _ (if w.params.followText "set-order" = true then _ else _) _ _ _
    rw [if_pos hb]
    refine wpAny_bind (wpAny_askSetting (wpAny_pure ?_))
    refine wpAny_pure ?_
    show Q (Option.map (fun e => (e.2, slot)) (pickOrder (w.params.setOrder a ep) es)[i]?) s
    rw [he]
    exact h slot fun z => by
      unfold ledW at z
      rw [hb] at z
      cases z
  · rw [if_neg hb]
    have hl : ledW w = true := by
      unfold ledW
      rw [Bool.not_eq_true] at hb
      rw [hb]
      rfl
    have hw : wayOf w a ep es = es := by unfold wayOf; rw [if_neg hb]
    rw [hw] at he
    have hi : i < es.size := (Array.getElem?_eq_some_iff.mp he).1
    obtain ⟨hs1, hs2⟩ := hs hl
    have hv : vs[i]? = some vs[i] := List.getElem?_eq_getElem (by omega)
    show wpAny _ _ (if (!(tabOf vs (ledW w)).plain && decide (es.size > 1)) = true then _ else _) _ _ _
    rw [if_neg (by show ¬ (!true && _) = true; simp)]
    refine wpAny_bind ?_
    show wpAny _ _ (if (!(ledW w) && !es.isEmpty) = true then _ else _) _ _ _
    rw [if_neg (by rw [hl]; simp)]
    refine wpAny_pure (wpAny_pure ?_)
    show Q (match es[SetTable.below vs.toArray slot]?, vs.toArray[SetTable.below vs.toArray slot]? with | some (_, x), some j => some (x, j + 1) | _, _ => none) s
    rw [hs2, he, List.getElem?_toArray, hv]
    exact h _ (slot_next hr hv)
theorem set_next_none {a : Addr} {o : Obj} {es : Array (Int × Value)} {ep : Nat} {vs : List Nat} {slot : Nat} {Q : Option (Value × Nat) → Shared → Prop}
    (ho : s.heap.get? a = some o) (hd : o.data = .set es ep (tabOf vs (ledW w))) (hp : Paired EntIs es.toList vs) (hr : Ris vs) (hs : AtSlot w vs slot es.size)
    (h : Q none s) : wpAny (model prog w) A (setNext a slot es.size ep) Q E s := by
  have hlen : es.size = vs.length := by rw [← Array.length_toList]; exact Paired.length hp
  have hf : (tabOf vs (ledW w)).fits es.size = true := by rw [hlen]; exact tab_fits hr
  unfold setNext
  refine wpAny_bind (wpAny_setState_of ho hd hf ?_)
  dsimp only
  unfold setsByText
  refine wpAny_bind (wpAny_bind (wpAny_askSetting (wpAny_pure ?_)))
  show wpAny _ _ (if w.params.followText "set-order" = true then _ else _) _ _ _
  by_cases hb : w.params.followText "set-order" = true
  · rw [if_pos hb]
    have hw : wayOf w a ep es = pickOrder (w.params.setOrder a ep) es := by unfold wayOf; rw [if_pos hb]
    have hz := way_size w a ep es
    rw [hw] at hz
    simp only [bne_self_eq_false, Bool.false_eq_true, if_false]
    refine wpAny_bind ?_
    unfold setWalk setsByText
    refine wpAny_bind (wpAny_setState_of ho hd hf ?_)
    dsimp only
    refine wpAny_bind (wpAny_bind (wpAny_askSetting (wpAny_pure ?_)))
    show wpAny _ _ (if w.params.followText "set-order" = true then _ else _) _ _ _
    rw [if_pos hb]
    refine wpAny_bind (wpAny_askSetting (wpAny_pure ?_))
    refine wpAny_pure ?_
    show Q (Option.map (fun e => (e.2, slot)) (pickOrder (w.params.setOrder a ep) es)[es.size]?) s
    rw [Array.getElem?_eq_none (by omega)]
    exact h
  · rw [if_neg hb]
    have hl : ledW w = true := by
      unfold ledW
      rw [Bool.not_eq_true] at hb
      rw [hb]
      rfl
    obtain ⟨hs1, hs2⟩ := hs hl
    show wpAny _ _ (if (!(tabOf vs (ledW w)).plain && decide (es.size > 1)) = true then _ else _) _ _ _
    rw [if_neg (by show ¬ (!true && _) = true; simp)]
    refine wpAny_bind ?_
    show wpAny _ _ (if (!(ledW w) && !es.isEmpty) = true then _ else _) _ _ _
    rw [if_neg (by rw [hl]; simp)]
    refine wpAny_pure (wpAny_pure ?_)
    show Q (match es[SetTable.below vs.toArray slot]?, vs.toArray[SetTable.below vs.toArray slot]? with | some (_, x), some j => some (x, j + 1) | _, _ => none) s
    rw [hs2, Array.getElem?_eq_none (Nat.le_refl _)]
    exact h
end
end L2
namespace L2
open PySem PySem.Spec PyProof.Rows
namespace SF
theorem owner_si : Manifest.owners.lookup (String.ofList ['r', 'o', 't', 'a', 'r', 'e', 't', 'i', '_', 't', 'e', 's'].reverse) = some Manifest.sig_set_iterator := by kernel_rfl
theorem slot_si_next : Slot "set_iterator" "__next__" "set_iterator.__next__" :=
  .of (owner := "set_iterator") (n := "__next__") (by rw [typeLookup_type, builtinLookup_eq_fast]; kernel_rfl) (by decide +kernel) (by decide +kernel) (by decide +kernel) (by first | exact .inl (by decide +kernel) | exact .inr (by decide +kernel)) (by rw [isSubtype_type]; kernel_rfl)
theorem entry_si_next : entryFor table "set_iterator.__next__" = some Builtin.«set_iterator.__next__» := entryFor_of_tree (by kernel_rfl)
theorem args_si_next (a : Value) : argsOk "set_iterator.__next__" ⟨[a], []⟩ := by
  unfold argsOk
  rw [signature?_of (id := "set_iterator.__next__") (n := ['_', '_', 't', 'x', 'e', 'n', '_', '_']) (o := ['r', 'o', 't', 'a', 'r', 'e', 't', 'i', '_', 't', 'e', 's']) (by kernel_rfl) owner_si]
  kernel_rfl
theorem slot_si_iter : Slot "set_iterator" "__iter__" "set_iterator.__iter__" :=
  .of (owner := "set_iterator") (n := "__iter__") (by rw [typeLookup_type, builtinLookup_eq_fast]; kernel_rfl) (by decide +kernel) (by decide +kernel) (by decide +kernel) (by first | exact .inl (by decide +kernel) | exact .inr (by decide +kernel)) (by rw [isSubtype_type]; kernel_rfl)
theorem args_si_iter (a : Value) : argsOk "set_iterator.__iter__" ⟨[a], []⟩ := by
  unfold argsOk
  rw [signature?_of (id := "set_iterator.__iter__") (n := ['_', '_', 'r', 'e', 't', 'i', '_', '_']) (o := ['r', 'o', 't', 'a', 'r', 'e', 't', 'i', '_', 't', 'e', 's']) (by kernel_rfl) owner_si]
  kernel_rfl
theorem entry_si_iter : entryFor table "set_iterator.__iter__" = some Builtin.«dict_keyiterator.__iter__» :=
  entryFor_alias (id' := "dict_keyiterator.__iter__") (by kernel_rfl) (by first | rfl | decide +kernel | (unfold String.splitOn; simp +decide [String.splitOnAux])) (by decide +kernel) (by kernel_rfl)
theorem entry_s_iter : entryFor table "set.__iter__" = some Builtin.«frozenset.__iter__» :=
  entryFor_alias (id' := "frozenset.__iter__") (by kernel_rfl) (by first | rfl | decide +kernel | (unfold String.splitOn; simp +decide [String.splitOnAux])) (by decide +kernel) (by kernel_rfl)
theorem s_len : typeLookup (.type "set") "__len__" = pure (some (.builtin "set.__len__")) := by rw [typeLookup_type, builtinLookup_eq_fast]; kernel_rfl
end SF
def setIt (a : Addr) (slot i n ep : Nat) : Obj := { cls := .type "set_iterator", data := .fields #[rawInt slot, rawInt i, .ref a, rawInt n, rawInt ep] }
def IsSetIt (h : Heap) (it a : Addr) (slot i n ep : Nat) : Prop := ∃ o, h.get? it = some o ∧ o.cls = .type "set_iterator" ∧ o.data = .fields #[rawInt slot, rawInt i, .ref a, rawInt n, rawInt ep]
theorem IsSetIt.ty {s : Shared} {it a : Addr} {slot i n ep : Nat} (x : IsSetIt s.heap it a slot i n ep) : s.TypeIs (.ref it) "set_iterator" := let ⟨o, ho, hc, _⟩ := x; ⟨o, ho, hc⟩
theorem IsSetIt.at {h h' : Heap} {it a : Addr} {slot i n ep : Nat} (x : IsSetIt h it a slot i n ep) (e : ∀ o, h.get? it = some o → h'.get? it = some o) : IsSetIt h' it a slot i n ep := let ⟨o, ho, r⟩ := x; ⟨o, e _ ho, r⟩
section
variable {prog : Program} {w : World} {A : Around} {E : Value → Shared → Prop} {s : Shared}
theorem it_item {it a : Addr} {o : Obj} {es : Array (Int × Value)} {ep : Nat} {vs : List Nat} {slot i : Nat} {e : Int × Value} {Q : Option Value → Shared → Prop}
    (hit : IsSetIt s.heap it a slot i es.size ep) (ho : s.heap.get? a = some o) (hd : o.data = .set es ep (tabOf vs (ledW w))) (hp : Paired EntIs es.toList vs) (hr : Ris vs) (hs : AtSlot w vs slot i) (he : (wayOf w a ep es)[i]? = some e)
    (hQ : ∀ h' slot', AtSlot w vs slot' (i + 1) → IsSetIt h' it a slot' (i + 1) es.size ep → Heap.SameBut it s.heap h' → Q (some e.2) { s with heap := h' }) : wpAny (model prog w) A (pyNext (.ref it)) Q E s := by
  obtain ⟨oi, hoi, hci, hdi⟩ := id hit
  have hlen : es.size = vs.length := by rw [← Array.length_toList]; exact Paired.length hp
  have hf : (tabOf vs (ledW w)).fits es.size = true := by rw [hlen]; exact tab_fits hr
  unfold pyNext
  refine wpAny_bind (wpAny_attempt (wpAny_callSpecial?_slot (name := Str.ofString "__next__") hit.ty SF.slot_si_next (wpAny_call_entry SF.slot_si_next hit.ty SF.entry_si_next ?_ (SF.args_si_next _))))
  unfold Builtin.«set_iterator.__next__»
  refine wpAny_bind (wpAny_of_eq (a := (Value.ref it, [])) rfl ?_)
  refine wpAny_bind (wpAny_fieldsOf hoi hdi ?_)
  dsimp only [rawInt]
  refine wpAny_bind (wpAny_setEntries_of ho hd hf ?_)
  simp only [bne_self_eq_false, Bool.false_eq_true, if_false, Int.toNat_natCast]
  refine wpAny_bind (set_next_some ho hd hp hr hs he fun slot' hs' => ?_)
  dsimp only
  refine wpAny_bind (wpAny_setField hoi hdi (by simp) ?_)
  have hoi1 := Heap.get?_update_self (Obj.mapFields (·.setIfInBounds 0 (rawInt (slot' : Nat)))) hoi (Obj.isFreed_of_fields (Obj.data_mapFields hdi _))
  refine wpAny_bind (wpAny_setField hoi1 (Obj.data_mapFields hdi _) (by simp) ?_)
  refine wpAny_pure ⟨e.2, rfl, wpAny_pure (hQ _ slot' hs' ⟨_, Heap.get?_update_self _ hoi1 (Obj.isFreed_of_fields (Obj.data_mapFields (Obj.data_mapFields hdi _) _)), ?_, ?_⟩ ((Heap.SameBut.update ..).trans (Heap.SameBut.update ..)))⟩
  · rw [Obj.cls_mapFields, Obj.cls_mapFields]
    exact hci
  · rw [Obj.data_mapFields (Obj.data_mapFields hdi _)]
    simp [rawInt]
theorem it_end {it a : Addr} {o : Obj} {es : Array (Int × Value)} {ep : Nat} {vs : List Nat} {slot : Nat} {Q : Option Value → Shared → Prop} (hh : A.handled = none)
    (hit : IsSetIt s.heap it a slot es.size es.size ep) (ho : s.heap.get? a = some o) (hd : o.data = .set es ep (tabOf vs (ledW w))) (hp : Paired EntIs es.toList vs) (hr : Ris vs) (hs : AtSlot w vs slot es.size)
    (hQ : ∀ h', Heap.ExtBut it s.heap h' → Q none { s with heap := h' }) : wpAny (model prog w) A (pyNext (.ref it)) Q E s := by
  obtain ⟨oi, hoi, hci, hdi⟩ := id hit
  have hlen : es.size = vs.length := by rw [← Array.length_toList]; exact Paired.length hp
  have hf : (tabOf vs (ledW w)).fits es.size = true := by rw [hlen]; exact tab_fits hr
  unfold pyNext
  refine wpAny_bind (wpAny_attempt (wpAny_callSpecial?_slot (name := Str.ofString "__next__") hit.ty SF.slot_si_next (wpAny_call_entry SF.slot_si_next hit.ty SF.entry_si_next ?_ (SF.args_si_next _))))
  unfold Builtin.«set_iterator.__next__»
  refine wpAny_bind (wpAny_of_eq (a := (Value.ref it, [])) rfl ?_)
  refine wpAny_bind (wpAny_fieldsOf hoi hdi ?_)
  dsimp only [rawInt]
  refine wpAny_bind (wpAny_setEntries_of ho hd hf ?_)
  simp only [bne_self_eq_false, Bool.false_eq_true, if_false, Int.toNat_natCast]
  refine wpAny_bind (set_next_none ho hd hp hr hs ?_)
  dsimp only
  refine wpAny_bind (wpAny_setField hoi hdi (by simp) ?_)
  refine wpAny_bind ?_
  simp only [newExc, newTuple]
  refine wpAny_bind (wpAny_newObj_type ?_ (by size_fits))
  refine wpAny_bind (m := firstArgMember _ _) (wpAny_of_eq (a := Value.none) (by first | rfl | (simp only [firstArgMember]; rfl)) ?_)
  refine wpAny_newObj_type ?_ (by size_fits)
  simp only [raiseNew]
  refine wpAny_bind (wpAny_handled ?_)
  first | rw [show A.in1.handled = none from hh] | rw [hh]
  refine wpAny_bind (wpAny_pure (wpAny_throw ?_))
  refine wpAny_bind (wpAny_isInstance (T := "StopIteration") (b := true) ⟨_, Heap.get?_push_size _ rfl, rfl⟩ isSubtype_stop ?_)
  exact wpAny_pure (hQ _ ((((Heap.SameBut.update ..).extBut).push _).push _))
theorem it_self {it a : Addr} {slot i n ep : Nat} {Q : Value → Shared → Prop} (hit : IsSetIt s.heap it a slot i n ep) (h : Q (.ref it) s) : wpAny (model prog w) A (pyIter (.ref it)) Q E s := by
  refine wpAny_pyIter_slot hit.ty SF.slot_si_iter (wpAny_call_entry SF.slot_si_iter hit.ty SF.entry_si_iter ?_ (SF.args_si_iter _))
  show wpAny _ _ (ret (.ref it)) _ _ s
  exact wpAny_pure ⟨_, rfl, "set_iterator", _, hit.ty, SF.slot_si_next.lookup, h⟩
end
theorem walks_set {prog : Program} {w : World} {A : Around} (hh : A.handled = none) (it a : Addr) (hne : a ≠ it) {o : Obj} {es : Array (Int × Value)} {ep : Nat} {vs : List Nat} (hd : o.data = .set es ep (tabOf vs (ledW w))) (hp : Paired EntIs es.toList vs) (hr : Ris vs) :
    Walks prog w A it [it, a] [it] es.size (fun i v => ∃ e, (wayOf w a ep es)[i]? = some e ∧ v = e.2) (fun i h => (∃ slot, AtSlot w vs slot i ∧ IsSetIt h it a slot i es.size ep) ∧ h.get? a = some o) where
  sub := fun b hb => by simp at hb; simp [hb]
  frame := fun i h h' x hk => by
    obtain ⟨⟨slot, h1, h2⟩, h3⟩ := x
    exact ⟨⟨slot, h1, h2.at fun o e => hk it (by simp) o e⟩, hk a (by simp) o h3⟩
  item := fun i s Q E hi x hQ => by
    obtain ⟨⟨slot, h1, h2⟩, h3⟩ := x
    have hi' : i < (wayOf w a ep es).size := by rw [way_size]; exact hi
    refine it_item h2 h3 hd hp hr h1 (e := (wayOf w a ep es)[i]) (Array.getElem?_eq_getElem hi') fun h' slot' q1 q2 q3 => ?_
    exact hQ _ h' s.toks ⟨_, Array.getElem?_eq_getElem hi', rfl⟩ ⟨⟨slot', q1, q2⟩, (q3.2 a hne).trans h3⟩ fun b o hb e => q3.extBut b o (fun z => hb (by simp [z])) e
  done := fun s Q E x hQ => by
    obtain ⟨⟨slot, h1, h2⟩, h3⟩ := x
    exact it_end hh h2 h3 hd hp hr h1 fun h' q => hQ h' s.toks fun b o hb e => q b o (fun z => hb (by simp [z])) e
  self := fun i s Q E x hQ => by
    obtain ⟨⟨slot, h1, h2⟩, _⟩ := x
    exact it_self h2 hQ
end L2
namespace L2
open PySem PySem.Spec PyProof.Rows
section
variable {prog : Program} {w : World} {A : Around} {E : Value → Shared → Prop} {s : Shared}
theorem iter_small {a : Addr} {o : Obj} {es : Array (Int × Value)} {ep : Nat} {vs : List Nat} {Q : Value → Shared → Prop} (ho : s.heap.get? a = some o) (hex : o.ExactSet) (hd : o.data = .set es ep (tabOf vs (ledW w))) (hp : Paired EntIs es.toList vs) (hr : Ris vs)
    (h : Q (.ref s.heap.objs.size) { s with heap := s.heap.push (setIt a 0 0 es.size ep) }) : wpAny (model prog w) A (pyIter (.ref a)) Q E s := by
  have hlen : es.size = vs.length := by rw [← Array.length_toList]; exact Paired.length hp
  have hf : (tabOf vs (ledW w)).fits es.size = true := by rw [hlen]; exact tab_fits hr
  have ty : s.TypeIs (.ref a) "set" := ⟨o, ho, hex.1⟩
  refine wpAny_pyIter_slot ty F.slot_set_iter (wpAny_call_entry F.slot_set_iter ty SF.entry_s_iter ?_ (F.args_set_iter_1 _))
  unfold Builtin.«frozenset.__iter__»
  refine wpAny_bind (wpAny_of_eq (a := a) rfl ?_)
  refine wpAny_bind ?_
  unfold Builtin.Frozenset.sizeOf
  refine wpAny_bind (wpAny_setEntries_of ho hd hf (wpAny_pure ?_))
  refine wpAny_bind ?_
  refine wpAny_bind ?_
  refine wpAny_setState_of ho hd hf ?_
  dsimp only
  unfold setsByText
  refine wpAny_bind (wpAny_bind (wpAny_askSetting (wpAny_pure (wpAny_pure ?_))))
  show wpAny _ _ (if (!(w.params.followText "set-order") && (!(tabOf vs (ledW w)).plain && decide (es.size > 1))) = true then _ else _) _ _ _
  rw [if_neg (by show ¬ (_ && (!true && _)) = true; simp)]
  refine wpAny_bind (wpAny_pure ?_)
  refine wpAny_bind (wpAny_setEpoch_of ho hd hf ?_)
  refine wpAny_bind (wpAny_newObj_type (T := "set_iterator") ?_ (by size_fits))
  exact wpAny_pure ⟨_, rfl, "set_iterator", _, ⟨_, Heap.get?_push_size _ rfl, rfl⟩, SF.slot_si_next.lookup, h⟩
theorem room_small {a : Addr} {Q : Bool → Shared → Prop} (ty : s.TypeIs (.ref a) "set") (h : Q false s) : wpAny (model prog w) A (Builtin.List.listLengthHint (.ref a)) Q E s := by
  unfold Builtin.List.listLengthHint
  refine wpAny_bind (wpAny_specialOf ty SF.s_len ?_)
  generalize hid : ("set.__len__" : String) = id0
  wp_delta
  rw [show splitId id0 = some ("set", "__len__") from by subst hid; decide +kernel]
  subst hid
  refine wpAny_bind (wpAny_isInstance (b := true) ty sub_set_self ?_)
  refine wpAny_bind (wpAny_typeOf ty ?_)
  exact wpAny_pure h
theorem ents_ints {es : Array (Int × Value)} {vs : List Nat} (hp : Paired EntIs es.toList vs) {l : List (Int × Value)} (pl : l.Perm es.toList) : ∃ ms : List Int, IntsAre (l.map (·.2)) ms ∧ ms.Perm (vs.map fun (v : Nat) => (v : Int)) := by
  have h1 : ∀ {a : List (Int × Value)} {b : List Nat}, Paired EntIs a b → b.map (fun (v : Nat) => (v : Int)) = a.map (·.1) := by
    intro a b h
    induction h with
    | nil => rfl
    | cons q t ih => rw [List.map_cons, List.map_cons, ih, q.1]
  have h2 : ∀ e ∈ es.toList, ∃ t, e.2 = Value.int e.1 t := by
    generalize es.toList = a at hp
    induction hp with
    | nil => intro e he; simp at he
    | @cons x b as bs q t ih =>
      intro e he
      rcases List.mem_cons.mp he with rfl | he
      · obtain ⟨q1, tk, q2⟩ := q
        exact ⟨tk, by rw [q2, q1]⟩
      · exact ih e he
  have h3 : ∀ l : List (Int × Value), (∀ e ∈ l, ∃ t, e.2 = Value.int e.1 t) → IntsAre (l.map (·.2)) (l.map (·.1)) := by
    intro l
    induction l with
    | nil => intro _; exact .nil
    | cons x r ih =>
      intro hx
      obtain ⟨tk, e⟩ := hx x List.mem_cons_self
      rw [List.map_cons, List.map_cons, e]
      exact .cons _ _ (ih fun y hy => hx y (List.mem_cons_of_mem _ hy))
  refine ⟨l.map (·.1), h3 l fun e he => h2 e (pl.mem_iff.mp he), ?_⟩
  rw [h1 hp]
  exact pl.map _
theorem collect_small {a : Addr} {vs : List Nat} {Q : List Value → Shared → Prop} (hh : A.handled = none) (hS : Small w s.heap a vs)
    (h : ∀ h' tk us ms, (∀ b o, s.heap.get? b = some o → h'.get? b = some o) → s.heap.objs.size ≤ h'.objs.size → IntsAre us ms → ms.Perm (vs.map fun (v : Nat) => (v : Int)) → Q us { s with heap := h', toks := tk }) :
    wpAny (model prog w) A (collect (.ref a)) Q E s := by
  obtain ⟨o, es, ep, ho, hex, hd, hp, hr⟩ := hS
  have alt : a < s.heap.objs.size := Heap.lt_size ho
  unfold collect
  refine wpAny_bind (wpAny_runValue (codeAny_builtin entry_proto_collect' ?_))
  show wpAny _ _ (do again (.builtin "list.__iadd__" ⟨[← newList [], .ref a], []⟩)) _ _ s
  refine wpAny_bind (wpAny_newList (wpAny_pure ⟨Code.quiet_builtin _ (by decide +kernel), codeAny_builtin entry_list_iadd' ?_⟩))
  show wpAny _ _ (Builtin.List.listExtendWith (.ref s.heap.objs.size) (.ref a) (.ref s.heap.objs.size)) _ _ { s with heap := s.heap.push (seqObj "list" #[] 0) }
  have ho1 : (s.heap.push (seqObj "list" #[] 0)).get? a = some o := Heap.get?_push_of_some _ ho
  have hL1 : (s.heap.push (seqObj "list" #[] 0)).get? s.heap.objs.size = some (seqObj "list" #[] 0) := Heap.get?_push_size _ rfl
  have ty1 : Shared.TypeIs { s with heap := s.heap.push (seqObj "list" #[] 0) } (.ref a) "set" := ⟨o, ho1, hex.1⟩
  unfold Builtin.List.listExtendWith
  refine wpAny_bind (wpAny_typeOf ty1 ?_)
  have n1 : Builtin.List.listSameRef (.ref s.heap.objs.size) (.ref a) = false := by simp [Builtin.List.listSameRef, Nat.ne_of_gt alt]
  rw [n1]
  show wpAny _ _ (if (false || (Value.type "set" == Value.type "list") || (Value.type "set" == Value.type "tuple")) = true then _ else _) _ _ _
  rw [if_neg (by decide)]
  refine wpAny_bind (iter_small (s := { s with heap := s.heap.push (seqObj "list" #[] 0) }) ho1 hex hd hp hr ?_)
  have sz1 : (s.heap.push (seqObj "list" #[] 0)).objs.size = s.heap.objs.size + 1 := size_push' ..
  generalize hH2 : (s.heap.push (seqObj "list" #[] 0)).push (setIt a 0 0 es.size ep) = h2
  have k2 : ∀ b ob, s.heap.get? b = some ob → h2.get? b = some ob := fun b ob e => by
    rw [← hH2]
    exact Heap.get?_push_of_some _ (Heap.get?_push_of_some _ e)
  have hI2 : h2.get? (s.heap.objs.size + 1) = some (setIt a 0 0 es.size ep) := by
    rw [← hH2, ← sz1]
    exact Heap.get?_push_size _ rfl
  have hL2 : h2.get? s.heap.objs.size = some (seqObj "list" #[] 0) := by
    rw [← hH2]
    exact Heap.get?_push_of_some _ hL1
  refine wpAny_bind (wpAny_holding (room_small (s := { s with heap := h2 }) ⟨o, k2 _ _ ho, hex.1⟩ ?_))
  show wpAny _ _ (if (false || _) = true then _ else _) _ _ _
  rw [if_pos (by decide +kernel)]
  refine wpAny_bind (wpAny_rule ?_)
  unfold Builtin.List.listTouch
  refine wpAny_bind ?_
  refine wpAny_bind (listUpdate_at (s := { s with heap := h2 }) hL2 rfl ?_ (by decide) (by decide))
  have hL3 := get?_update_seq hL2 (·.push .none)
  refine listUpdate_at (s := { s with heap := h2.update s.heap.objs.size (Obj.mapSeq (·.push .none)) }) hL3 rfl ?_ (by decide) (by decide)
  have hL4 := get?_update_seq hL3 (·.pop)
  generalize hH4 : (h2.update s.heap.objs.size (Obj.mapSeq (·.push .none))).update s.heap.objs.size (Obj.mapSeq (·.pop)) = h4 at hL4
  have k4 : ∀ b ob, b ≠ s.heap.objs.size → h2.get? b = some ob → h4.get? b = some ob := fun b ob nb e => by
    rw [← hH4]
    exact (Heap.get?_update_other _ _ (Ne.symm nb)).trans ((Heap.get?_update_other _ _ (Ne.symm nb)).trans e)
  have ho4 : h4.get? a = some o := k4 _ _ (Nat.ne_of_lt alt) (k2 _ _ ho)
  have hI4 : h4.get? (s.heap.objs.size + 1) = some (setIt a 0 0 es.size ep) := k4 _ _ (Nat.ne_of_gt (Nat.lt_succ_self _)) hI2
  show wpAny _ _ (again (.builtin "list.extend.loop" ⟨[.ref s.heap.objs.size, .ref ((s.heap.push (seqObj "list" #[] 0)).objs.size), .ref s.heap.objs.size], []⟩)) _ _ _
  rw [sz1]
  have hne : a ≠ s.heap.objs.size + 1 := Nat.ne_of_lt (Nat.lt_succ_of_lt alt)
  have W := walks_set (prog := prog) (w := w) (A := A.in1) (by simpa using hh) (s.heap.objs.size + 1) a hne hd hp hr
  have hSf : s.heap.objs.size ∉ [s.heap.objs.size + 1, a] := by
    simp only [List.mem_cons, List.not_mem_nil, or_false, not_or]
    exact ⟨Nat.ne_of_lt (Nat.lt_succ_self _), Nat.ne_of_gt alt⟩
  have h8 := hr.len
  have hlen : es.size = vs.length := by rw [← Array.length_toList]; exact Paired.length hp
  refine wpAny_pure ⟨plainId_quiet F.plain_extend_loop _, codeAny_extend_loopS (A := A) W.toS (by rw [sizeLine_eq]; omega) _ hSf _ es.size 0 { s with heap := h4 } #[] _ rfl (Nat.zero_le _) ⟨⟨0, slot_zero hr, ⟨_, hI4, rfl, rfl⟩⟩, ho4⟩ hL4 (ItemsOf.nil _) fun s' acc c hm hS' hacc => ?_⟩
  show wpAny _ _ (load s.heap.objs.size >>= _) _ _ s'
  refine wpAny_bind (wpAny_load hS' ?_)
  refine wpAny_pure ?_
  rw [Moved.eq_with hm]
  obtain ⟨a1, a2⟩ := hacc
  have ea : acc.toList = (wayOf w a ep es).toList.map (·.2) := by
    refine List.ext_getElem? fun j => ?_
    rw [List.getElem?_map, Array.getElem?_toList, Array.getElem?_toList]
    by_cases hj : j < es.size
    · have hj1 : j < acc.size := by rw [a1]; exact hj
      obtain ⟨e, q1, q2⟩ := a2 j acc[j] (Array.getElem?_eq_getElem hj1)
      rw [q1, Array.getElem?_eq_getElem hj1, q2]
      rfl
    · rw [Array.getElem?_eq_none (by omega), Array.getElem?_eq_none (by rw [way_size]; omega)]
      rfl
  obtain ⟨ms, m1, m2⟩ := ents_ints hp (way_perm w a ep es)
  rw [← ea] at m1
  refine h s'.heap s'.toks acc.toList ms (fun b ob e => ?_) (Nat.le_of_lt (Heap.lt_size hS')) m1 m2
  have lt := Heap.lt_size e
  exact hm.heap b ob (by simp only [List.mem_cons, List.not_mem_nil, or_false, not_or]; exact ⟨Nat.ne_of_lt lt, Nat.ne_of_lt (Nat.lt_succ_of_lt lt)⟩) (k4 _ _ (Nat.ne_of_lt lt) (k2 _ _ e))
theorem sorted_small {a : Addr} {vs : List Nat} {Q : Value → Shared → Prop} (hh : A.handled = none) (hS : Small w s.heap a vs)
    (h : ∀ h' tk p c out ms, (∀ b o, s.heap.get? b = some o → h'.get? b = some o) → s.heap.objs.size ≤ p → h'.get? p = some (seqObj "list" out c) → IntsAre out.toList ms → ms.Perm (vs.map fun (v : Nat) => (v : Int)) → ms.Pairwise (· ≤ ·) → Q (.ref p) { s with heap := h', toks := tk }) :
    wpAny (model prog w) A (call (.builtin "sorted") [.ref a]) Q E s := by
  have h8 : vs.length ≤ 8 := by
    obtain ⟨_, _, _, _, _, _, _, hr⟩ := hS
    exact hr.len
  have old := hS
  refine Calls.call_function_entry kind_sorted plain_sorted entry_sorted (args_sorted1 _) ?_
  unfold Builtin.«sorted»
  refine wpAny_bind (m := checkCount "sorted" 1 1 _) (wpAny_pure ?_)
  refine wpAny_bind (collect_small (by simpa using hh) hS fun h1 tk us ms k1 hsz i1 p1 => ?_)
  have lu : us.length < 64 := by
    rw [IntsAre.length i1, p1.length_eq, List.length_map]
    omega
  refine wpAny_bind (wpAny_newList ?_ (by rw [sizeLine_eq]; omega))
  have hoL : (h1.push (seqObj "list" us.toArray 0)).get? h1.objs.size = some (seqObj "list" us.toArray 0) := Heap.get?_push_size _ rfl
  refine wpAny_bind (wpAny_holding (wpAny_call_entry slot_list_sort ⟨_, hoL, rfl⟩ entry_list_sort (list_sort_tree hoL i1 lu fun out ns' a1 a2 a3 => ⟨_, rfl, ?_⟩) (args_list_sort _)))
  obtain ⟨c, hc⟩ := sortedHeap_at (out := out) hoL
  refine wpAny_pure ⟨_, rfl, h _ tk _ c out ns' (fun b ob e => ?_) hsz hc a1 (a2.trans p1) a3⟩
  have lt : b < h1.objs.size := Heap.lt_size (k1 _ _ e)
  rw [sortedHeap_old (Nat.ne_of_lt lt) (by rw [size_push']; exact Nat.lt_succ_of_lt lt)]
  exact Heap.get?_push_of_some _ (k1 _ _ e)
end
end L2
namespace L2
open PySem PySem.Spec PyProof.Rows
section
variable {prog : Program} {w : World} {A : Around} {E : Value → Shared → Prop} {s : Shared}
def noSet (w : World) : Obj := { cls := .type "set", dict := none, data := .set #[] 0 (tabOf [] (ledW w)) }
theorem no_small {h : Heap} {a : Addr} (e : h.get? a = some (noSet w)) : Small w h a [] := ⟨_, #[], 0, e, ⟨rfl, rfl, rfl⟩, rfl, .nil, Ris.nil⟩
theorem made_set (v : Value) {Q₁ : Value → Shared → Prop} (h : Q₁ (.ref s.heap.objs.size) { s with heap := s.heap.push (noSet w) }) :
    codeAny (model prog w) A (.call (.builtin "set.__new__") ⟨[.type "set", v], []⟩) (wants Q₁ E) s := by
  refine codeAny_of_tree ?_
  show wpAny _ A.in1 (checkBuiltinCall "set.__new__" ⟨[.type "set", v], []⟩ >>= fun _ => again (.builtin "set.__new__" ⟨[.type "set", v], []⟩)) _ _ s
  refine wpAny_bind (wpAny_of_eq (F.newCall_set_1 v) (wpAny_pure ⟨plainId_quiet F.plain_set_new _, codeAny_builtin F.entry_set_new ?_⟩))
  rw [Around.under_plainId F.plain_set_new _]
  unfold Builtin.«set.__new__» Builtin.Frozenset.newClass
  have hsub := sub_set_self
  obtain ⟨hp, g, d, tk, os⟩ := s
  dsimp only
  wp_walk
  refine wpAny_askSetting (wpAny_pure ?_)
  simp only [newObj]
  refine wpAny_bind (wpAny_alloc (wpAny_pure (wpAny_pure ?_)))
  exact h
set_option maxHeartbeats 3200000 in
theorem set_small {l : Addr} {items : Array Value} {ns : List Nat} {Q : Value → Shared → Prop} (hh : A.handled = none) (hl : s.heap.IsList l items) (hi : IntsAre items.toList (ns.map fun (v : Nat) => (v : Int))) (h8 : ∀ v ∈ ns, v < 8)
    (h : ∀ (h' : Heap) (tk : Nat) (vs : List Nat), Small w h' s.heap.objs.size vs → (∀ x, x ∈ vs ↔ x ∈ ns) → (∀ b o, s.heap.get? b = some o → h'.get? b = some o) → Q (.ref s.heap.objs.size) { s with heap := h', toks := tk }) :
    wpAny (model prog w) A (call (.type "set") [.ref l]) Q E s := by
  obtain ⟨c, tl, hmro⟩ := F.called_set.mro
  have hmade := F.called_set.made
  have hsub := F.called_set.sub
  refine wpAny_call (codeAny_of_tree ?_)
  show wpAny _ _ (callAny (.type "set") _) _ _ _
  refine wpAny_pure ⟨Code.quiet_builtin _ (by decide +kernel), codeAny_builtin F.entry_type_call ?_⟩
  rw [Around.under_plain (weight_type_call_type "set" [.ref l] []) rfl]
  have h1 := F.called_set.notType
  have h2 := F.called_set.canCreate
  have hct := F.typeCall_set_1 (.ref l)
  repeat (any_goals (first | assumption | wp_step))
  refine codeAny_mono (made_set (.ref l) (E := E) (Q₁ := fun obj s₁ => obj = .ref s.heap.objs.size ∧ s₁ = { s with heap := s.heap.push (noSet w) }) ⟨rfl, rfl⟩) fun r s₁ hr => ?_
  cases r with
  | error e => exact hr
  | ok fl =>
    cases fl with
    | ret obj =>
      obtain ⟨rfl, rfl⟩ := hr
      have hS : (s.heap.push (noSet w)).get? s.heap.objs.size = some (noSet w) := Heap.get?_push_size _ rfl
      have hT : Shared.TypeIs { s with heap := s.heap.push (noSet w) } (.ref s.heap.objs.size) "set" := ⟨_, hS, rfl⟩
      have hli := F.called_set.init.lookup
      have hbi := F.called_set.init.bind (.ref s.heap.objs.size)
      repeat (any_goals (first | assumption | wp_step))
      refine codeAny_mono (codeAny_call_builtin (R := wants (fun r s₂ => r = .none ∧ ∃ h' tk vs, s₂ = { s with heap := h', toks := tk } ∧ Small w h' s.heap.objs.size vs ∧ (∀ x, x ∈ vs ↔ x ∈ ns) ∧
          (∀ b o, s.heap.get? b = some o → h'.get? b = some o)) E) F.called_set.init.plain F.entry_set_init (check_set_init_1 hT ?_)) fun r₂ s₂ hr₂ => ?_
      · obtain ⟨ol, hol, hcl, nl, hdl⟩ := hl
        obtain ⟨ocls, odict, odata, oslots⟩ := ol
        simp only at hcl hdl
        subst hcl; subst hdl
        have hol' : (s.heap.push (noSet w)).get? l = some { cls := .type "list", dict := odict, data := .seq items nl, slots := oslots } := Heap.get?_push_of_some _ hol
        have hsls := F.sub_list_set
        have hslf := F.sub_list_frozenset
        have hne : (Value.type "list" == Value.type "dict") = false := by decide
        have hl1 : (s.heap.push (noSet w)).IsList l items := ⟨_, hol', rfl, nl, rfl⟩
        unfold noSet at *
        unfold Builtin.«set.__init__» noKeywords Builtin.Frozenset.updateFrom
        generalize hPI : pyIter = PI
        wp_walk
        subst hPI
        refine wpAny_pyIter_list hl1 ?_
        refine wpAny_bind (wpAny_runValue ?_)
        have llt : l < s.heap.objs.size := Heap.lt_size hol
        have zlen : items.size = ns.length := by
          have := IntsAre.length hi
          simpa using this
        have sz1 : (s.heap.push { cls := .type "set", dict := none, data := .set #[] 0 (tabOf [] (ledW w)) }).objs.size = s.heap.objs.size + 1 := size_push' ..
        have nI : l ≠ (s.heap.push { cls := .type "set", dict := none, data := .set #[] 0 (tabOf [] (ledW w)) }).objs.size := by
          rw [sz1]
          exact Nat.ne_of_lt (Nat.lt_succ_of_lt llt)
        have hSf : s.heap.objs.size ∉ [(s.heap.push { cls := .type "set", dict := none, data := .set #[] 0 (tabOf [] (ledW w)) }).objs.size, l] := by
          rw [sz1]
          simp only [List.mem_cons, List.not_mem_nil, or_false, not_or]
          exact ⟨Nat.ne_of_lt (Nat.lt_succ_self _), Nat.ne_of_gt llt⟩
        have hval : ∀ (i : Nat) (v : Value), items[i]? = some v → ∃ t, v = .int ((fun i => ns.getD i 0) i : Nat) t := fun i v hv => by
          obtain ⟨t, e⟩ := IntsAre.int_at hi i v (by rw [Array.getElem?_toList]; exact hv)
          refine ⟨t, ?_⟩
          rw [e]
          congr 1
          simp only [List.getD_eq_getElem?_getD, List.getElem?_map]
          cases ns[i]? <;> rfl
        have hin : ∀ i, i < items.size → (fun i => ns.getD i 0) i ∈ ns := fun i hi' => by
          have hlt : i < ns.length := by omega
          simp only [List.getD_eq_getElem?_getD, List.getElem?_eq_getElem hlt]
          exact List.getElem_mem hlt
        refine fill_loop ((Walks.list (by simp [hh]) _ l nI items).toS) s.heap.objs.size hSf (fun i => ns.getD i 0) hval (fun i q => h8 _ (hin i q)) items.size 0 _ [] (by omega) (Nat.zero_le _)
          ⟨⟨_, Heap.get?_push_size _ rfl, rfl, rfl⟩, hl1.push _⟩ (no_small (Heap.get?_push_of_some _ hS)) (fun x => by simp) ?_
        intro s' vs hm hS' hm'
        obtain ⟨h', g', d', tk', os'⟩ := s'
        have eg : g' = s.gens := hm.gens
        have ed : d' = s.drawn := hm.drawn
        have eo : os' = s.os := hm.os
        subst eg; subst ed; subst eo
        show wpAny _ _ _ _ _ _
        refine wpAny_pure ?_
        show wpAny _ _ (ret Value.none) _ _ _
        refine wpAny_pure ⟨rfl, h', tk', vs, rfl, hS', fun x => ?_, fun b o e => ?_⟩
        · rw [hm']
          constructor
          · rintro ⟨j, h1, h2⟩
            rw [← h2]
            exact hin j h1
          · intro hx
            obtain ⟨j, hj, e⟩ := List.mem_iff_getElem.mp hx
            refine ⟨j, by omega, ?_⟩
            simp only [List.getD_eq_getElem?_getD, List.getElem?_eq_getElem hj]
            exact e
        · have lt := Heap.lt_size e
          refine hm.heap b o ?_ (Heap.get?_push_of_some _ (Heap.get?_push_of_some _ e))
          rw [sz1]
          simp only [List.mem_cons, List.not_mem_nil, or_false, not_or]
          exact ⟨Nat.ne_of_lt lt, Nat.ne_of_lt (Nat.lt_succ_of_lt lt)⟩
      · cases r₂ with
        | error e => exact hr₂
        | ok fl₂ =>
          cases fl₂ with
          | ret r =>
            obtain ⟨rfl, h', tk, vs, rfl, hS', hm', hk'⟩ := hr₂
            repeat (any_goals (first | assumption | wp_step))
            exact h _ _ _ hS' hm' hk'
          | _ => exact hr₂.elim
    | _ => exact hr.elim
end
end L2

namespace Sh
section
variable {α : Type}
end
end Sh
namespace Sh
def norm (ns : List Int) : List Int := (rangeI 8).filter fun b => decide (b ∈ ns)
theorem mem_norm {n : Nat} {ns : List Int} (h8 : n ≤ 8) (h : Good n ns) {b : Int} : b ∈ norm ns ↔ b ∈ ns := by
  unfold norm
  rw [List.mem_filter, mem_rangeI, decide_eq_true_iff]
  constructor
  · exact fun z => z.2
  · intro z
    have := h.1 b z
    exact ⟨by omega, z⟩
theorem norm_good {n : Nat} {ns : List Int} (h8 : n ≤ 8) (h : Good n ns) : Good n (norm ns) := by
  refine ⟨fun b hb => h.1 b ((mem_norm h8 h).mp hb), ?_⟩
  have := List.length_filter_le (fun b => decide (b ∈ ns)) (rangeI 8)
  rw [rangeI_len] at this
  unfold norm
  omega
end Sh
namespace Sh
end Sh
namespace Sh
end Sh
namespace L2
open PySem PySem.Spec PyProof.Rows
theorem rangeI_lt (n : Nat) : (Sh.rangeI n).Pairwise (· < ·) := by
  unfold Sh.rangeI
  rw [List.pairwise_map]
  exact List.pairwise_lt_range.imp fun h => by omega
theorem norm_of {ns ms : List Int} {vs : List Nat} (hr : Ris vs) (hm : ∀ x : Nat, x ∈ vs ↔ (x : Int) ∈ ns) (hp : ms.Perm (vs.map fun (v : Nat) => (v : Int))) (hs : ms.Pairwise (· ≤ ·)) : ms = Sh.norm ns := by
  have n1 : (vs.map fun (v : Nat) => (v : Int)).Nodup := by
    unfold List.Nodup
    rw [List.pairwise_map]
    exact hr.up.imp fun h => by omega
  have n2 : (Sh.norm ns).Nodup := ((rangeI_lt 8).filter _).imp fun h => by omega
  have n3 : (Sh.norm ns).Pairwise (· ≤ ·) := ((rangeI_lt 8).filter _).imp fun h => by omega
  refine Sh.sorted_unique (hp.trans ((List.perm_ext_iff_of_nodup n1 n2).mpr fun z => ?_)) hs n3
  unfold Sh.norm
  rw [List.mem_map, List.mem_filter, Sh.mem_rangeI, decide_eq_true_iff]
  constructor
  · rintro ⟨v, h1, rfl⟩
    have := hr.lt v h1
    exact ⟨by omega, (hm v).mp h1⟩
  · rintro ⟨h1, h2⟩
    exact ⟨z.toNat, (hm _).mpr (by rw [show ((z.toNat : Nat) : Int) = z by omega]; exact h2), by omega⟩
section
variable {X : Cx}
def tSortSet (K : PySem.W.Frag) (te : TE) : TE := fun σ H Q => te σ H fun x H1 => ∃ (p : Addr) (ns : List Int), x = .ref p ∧ SqL K H1 p (ns.map V.int) ∧ (∀ b ∈ ns, 0 ≤ b ∧ b < 8) ∧ ∀ l, H1 l = none → Q (.ref l) (upd H1 l (.lst ((Sh.norm ns).map V.int)))
theorem pe_sortedSet {e : Expr} {te : TE} {p1 p2 q1 q2 : Pos} (hg : Gl X "sorted") (hm : X.mg "sorted" = none) (hg2 : Gl X "set") (hm2 : X.mg "set" = none) (hc : X.calm = true) (he : PE X e te)
    (hs : starEach [e] X.env = [(false, eval e X.env)] := by rfl) (hs2 : starEach [.Call (.Name "set" p2) [e] [] q2] X.env = [(false, eval (.Call (.Name "set" p2) [e] [] q2) X.env)] := by rfl) :
    PE X (.Call (.Name "sorted" p1) [.Call (.Name "set" p2) [e] [] q2] [] q1) (tSortSet X.K te) := by
  intro pins s σ H Q I h
  refine wpAny_Call_Name_kw (ld_blt I hg hm PyProof.Rows.boot_sorted ?_)
  refine PyProof.Rows.callWith_builtin1 (spl_one hs2 ?_) hs2 rfl
  refine Call_ (ld_blt I hg2 hm2 boot_set (PyProof.Rows.callWith_type1 (spl_one hs (thn (he pins s σ H _ I h) fun u s1 ⟨x, H1, I1, r1, q⟩ => ?_)) hs rfl))
  obtain ⟨p, ns, rfl, hq, h8, q⟩ := q
  cases (show u = Value.ref p from r1)
  obtain ⟨its, rv, pl, hz⟩ := I1.list hq
  have hI : IntsAre its ns := intsAre_of rv
  have en : (ns.map Int.toNat).map (fun (v : Nat) => (v : Int)) = ns := by
    rw [List.map_map]
    conv => rhs; rw [← List.map_id ns]
    refine List.map_congr_left fun b hb => ?_
    have := h8 b hb
    show ((b.toNat : Nat) : Int) = b
    omega
  refine set_small (l := p) (items := its.toArray) (ns := ns.map Int.toNat) (I1.ok.hd hc) pl.isList (by rw [en]; simpa using hI) (fun v hv => ?_) fun h' tk vs hS hm' k1 => ?_
  · obtain ⟨b, hb, rfl⟩ := List.mem_map.mp hv
    have := h8 b hb
    omega
  · have hr : Ris vs := by
      obtain ⟨_, _, _, _, _, _, _, z⟩ := hS
      exact z
    have sz1 : s1.heap.objs.size ≤ h'.objs.size := by
      obtain ⟨_, _, _, z, _⟩ := hS
      exact Nat.le_of_lt (Heap.lt_size z)
    refine sorted_small (s := { s1 with heap := h', toks := tk }) (I1.ok.hd hc) hS fun h2 tk2 pp c out ms k2 hge hget i2 p2 s2 => ?_
    have hge' : s1.heap.objs.size ≤ pp := Nat.le_trans sz1 hge
    have em : ms = Sh.norm ns := norm_of hr (fun x => by
      rw [hm', List.mem_map]
      constructor
      · rintro ⟨b, hb, e⟩
        have := h8 b hb
        rw [show (x : Int) = b by omega]
        exact hb
      · intro hx
        exact ⟨_, hx, by omega⟩) p2 s2
    subst em
    refine ⟨.ref pp, _, I1.laid (t' := tk2) (fun b o z => k2 b o (k1 b o z)) hge' ?_, rfl, q pp (I1.hok.fresh hge')⟩
    refine ⟨?_, out.toList, c, vals_ints i2, by rw [Array.toArray_toList]; exact hget⟩
    have := List.length_filter_le (fun b => decide (b ∈ ns)) (Sh.rangeI 8)
    rw [Sh.rangeI_len] at this
    rw [List.length_map, sizeLine_eq]
    unfold Sh.norm
    omega
theorem k_sortSet {K : PySem.W.Frag} {e : Expr} {te : TE} {p1 p2 q1 q2 : Pos} (hK : X.K = K) (hg : Gl X "sorted") (hm : X.mg "sorted" = none) (hg2 : Gl X "set") (hm2 : X.mg "set" = none) (hc : X.calm = true) (he : PE X e te)
    (hs : starEach [e] X.env = [(false, eval e X.env)] := by rfl) (hs2 : starEach [.Call (.Name "set" p2) [e] [] q2] X.env = [(false, eval (.Call (.Name "set" p2) [e] [] q2) X.env)] := by rfl) :
    PE X (.Call (.Name "sorted" p1) [.Call (.Name "set" p2) [e] [] q2] [] q1) (tSortSet K te) := hK ▸ pe_sortedSet hg hm hg2 hm2 hc he hs hs2
end
end L2
namespace L2
open PySem PySem.Spec PyProof.Rows
end L2
namespace L2
open PySem PySem.Spec PyProof.Rows
theorem c_norm {K : PySem.W.Frag} {lw l2 : Addr} {n : Nat} {ws : List (List Int)} {H : Hp} {Q : Hp → Prop} (hW : WL H lw ws) (hlen : ws.length ≤ 100) (h8 : n ≤ 8) (hg : ∀ w ∈ ws, Sh.Good n w) (f2 : H l2 = none) (q : ∀ H', Same H H' → WLx H' l2 (ws.map Sh.norm) → Q H') :
    cLoop (Itl K lw) l2 (gName 0) (fun _ H Q => Q true H) (tSortSet K (tVar 0)) [none] (upd H l2 (.lst [])) Q := by
  obtain ⟨as, hA, hP⟩ := hW
  have lenA : as.length = ws.length := Paired.length hP
  refine c_list (K := K) (a := lw) (xs := as.map V.ref) (fun i ys σ H' => ∃ u, σ = [u] ∧ Same H H' ∧ H' l2 = some (.lst ys) ∧ ∃ cs : List Addr, ys = cs.map V.ref ∧ Paired (fun c w => c ≠ l2 ∧ H' c = some (.lst (w.map V.int))) cs ((ws.map Sh.norm).take i))
    ⟨none, rfl, Same.new f2, upd_same, [], rfl, .nil⟩ (fun i ys σ H' _ ⟨_, _, s5, _⟩ => SqL.of (s5 _ _ hA)) ?_ ?_
  · rintro i x ys σ H' hi ⟨u, rfl, s5, hL, cs, rfl, hC⟩
    rw [List.getElem?_map] at hi
    cases e : as[i]? with
    | none => rw [e] at hi; cases hi
    | some b =>
      rw [e] at hi
      obtain rfl : V.ref b = x := Option.some.inj hi
      obtain ⟨w', h1', h2'⟩ := paired_get1 hP e
      refine ⟨_, rfl, b, w', rfl, SqL.of (s5 _ _ h2'), fun z hz => ?_, fun c fc => ?_⟩
      · have := (hg w' (List.mem_of_getElem? h1')).1 z hz
        omega
      have nl : l2 ≠ c := fun e => by rw [← e, hL] at fc; cases fc
      refine ⟨by rw [upd_ne nl]; exact hL, ?_, _, rfl, (s5.trans (Same.new fc)).put f2, upd_same, cs ++ [c], ?_, ?_⟩
      · rw [List.length_map, Paired.length hC]
        have := List.length_take_le' i (ws.map Sh.norm)
        rw [List.length_map] at this
        exact small1000 (by omega)
      · rw [List.map_append]
        rfl
      · rw [List.take_add_one, List.getElem?_map, h1']
        refine Paired.snoc (Paired.mapP hC fun d w ⟨n1, e⟩ => ⟨n1, ?_⟩) ⟨Ne.symm nl, ?_⟩
        · have nc : d ≠ c := fun q => by rw [q, fc] at e; cases e
          rw [upd_ne n1, upd_ne nc]
          exact e
        · rw [upd_ne (Ne.symm nl)]
          exact upd_same
  · rintro ys σ H' ⟨u, rfl, s5, hL, cs, rfl, hC⟩
    rw [List.length_map, lenA, ← List.length_map (f := Sh.norm), List.take_length] at hC
    exact q H' s5 ⟨cs, hL, hC⟩
end L2
namespace L2
open PySem PySem.Spec PyProof.Rows
end L2

namespace Sh
theorem rangeI_lt (n : Nat) : (rangeI n).Pairwise (· < ·) := by
  unfold rangeI
  rw [List.pairwise_map]
  exact List.pairwise_lt_range.imp fun h => by omega
def okB (ws : List (List Int)) (bg : List Int) (b : Int) : Bool := ws.all fun w => decide (b ∈ w) || (w.all fun x => decide (x ∉ bg)) || (w.all fun x => decide (x ∈ bg))
def nxt (many : Nat) (ws : List (List Int)) (bg : List Int) : List Int := (rangeI many).filter fun b => decide (b ∉ bg) && okB ws bg b
def lle : List Int → List Int → Bool
  | [], _ => true
  | _ :: _, [] => false
  | x :: a, y :: b => decide (x < y) || (decide (x = y) && lle a b)
def tl (many : Nat) (ws : List (List Int)) : Nat → List Int → Option (List Int)
  | 0, _ => some []
  | n + 1, bg => (nxt many ws bg).findSome? fun b => (tl many ws n (bg ++ [b])).map (b :: ·)
def bits (ns : List Int) : Nat := ns.foldl (fun a b => a ||| 2 ^ b.toNat) 0
end Sh
namespace L2
open PySem PySem.Spec PyProof.Rows
section
variable {P : Program} {w : World} {K : PySem.W.Frag} {mg : Str → Option Value} {base : Heap}
end
section
variable {X : Cx} {k : Nat} {C : Addr} {x m : Str} {ps : List Str} {sp : Sp} {p pos apos : Pos} {o e : Expr} {es : List Expr} {t : TA} {ta : TE}
end
end L2
namespace Sh
def ords (many : Nat) : Nat → List (List Int)
  | 0 => [[]]
  | k + 1 => (ords many k).flatMap fun row => ((rangeI many).filter fun b => decide (b ∉ row)).map fun b => row ++ [b]
def Lt (a b : List Int) : Prop := lle a b = true ∧ a ≠ b
def cl (p : List Int → Bool) (n : Nat) : Nat → List Int
  | 0 => rangeI n
  | k + 1 => if p ((cl p n k).filter fun x => decide (x ≠ (k : Int))) then (cl p n k).filter fun x => decide (x ≠ (k : Int)) else cl p n k
end Sh
namespace Sh
end Sh
namespace L2
open PySem PySem.Spec PyProof.Rows
end L2
namespace L2
open PySem PySem.Spec PyProof.Rows
theorem norm_len {ns : List Int} {vs : List Nat} (hr : Ris vs) (hm : ∀ x : Nat, x ∈ vs ↔ (x : Int) ∈ ns) : vs.length = (Sh.norm ns).length := by
  have n1 : (vs.map fun (v : Nat) => (v : Int)).Nodup := by
    unfold List.Nodup
    rw [List.pairwise_map]
    exact hr.up.imp fun h => by omega
  have n2 : (Sh.norm ns).Nodup := ((rangeI_lt 8).filter _).imp fun h => by omega
  have hp := (List.perm_ext_iff_of_nodup n1 n2).mpr fun z => by
    unfold Sh.norm
    rw [List.mem_map, List.mem_filter, Sh.mem_rangeI, decide_eq_true_iff]
    constructor
    · rintro ⟨v, h1, rfl⟩
      have := hr.lt v h1
      exact ⟨by omega, (hm v).mp h1⟩
    · rintro ⟨h1, h2⟩
      exact ⟨z.toNat, (hm _).mpr (by rw [show ((z.toNat : Nat) : Int) = z by omega]; exact h2), by omega⟩
  have := hp.length_eq
  rwa [List.length_map] at this
section
variable {X : Cx}
end
end L2
namespace Sh
end Sh
namespace L2
open PySem PySem.Spec PyProof.Rows
section
variable {X : Cx} {tg : Expr}
end
end L2
namespace L2
open PySem PySem.Spec PyProof.Rows
section
variable {X : Cx} {K : PySem.W.Frag}
end
end L2
namespace L2
open PySem PySem.Spec PyProof.Rows
theorem cut_drop {xs : List V} {k : Nat} : cutV xs (some (k : Int)) none = xs.drop k := by
  unfold cutV
  rw [HT.sIx_none, HT.sIx_nat]
  by_cases h : k ≤ xs.length
  · rw [Nat.min_eq_left h]
    rw [List.take_of_length_le]
    rw [List.length_drop]
    omega
  · rw [Nat.min_eq_right (by omega), List.drop_eq_nil_of_le (Nat.le_refl _), List.drop_eq_nil_of_le (by omega)]
    simp
end L2
namespace Sh
def wlk (many : Nat) (ws : List (List Int)) (bg : List Int) : Bool := (List.range bg.length).all fun j => decide (bg.getD j 0 ∈ nxt many ws (bg.take j))
def tr (many : Nat) (ws : List (List Int)) (os : List Int) (k : Nat) : Option (List Int) :=
  if wlk many ws (os.take k) then (((nxt many ws (os.take k)).filter fun b => decide (b > os.getD k 0)).findSome? fun b => (tl many ws (many - k - 1) (os.take k ++ [b])).map (b :: ·)).map (os.take k ++ ·) else none
end Sh
namespace L2
open PySem PySem.Spec PyProof.Rows
section
variable {X : Cx}
end
end L2
namespace Sh
def so (os : List Int) (p : Int × Int) : Bool := decide (os.idxOf p.1 < os.idxOf p.2)
end Sh
namespace L2
open PySem PySem.Spec PyProof.Rows
section
variable {X : Cx} {tg : Expr}
end
end L2
namespace Sh
end Sh
namespace L2
open PySem PySem.Spec PyProof.Rows
section
variable {prog : Program} {w : World} {A : Around} {E : Value → Shared → Prop} {s : Shared}
end
section
variable {X : Cx} {tg : Expr}
end
end L2
namespace L2
open PySem PySem.Spec PyProof.Rows
section
variable {prog : Program} {w : World} {A : Around} {E : Value → Shared → Prop} {s : Shared} {knd : HeapKind prog w (List Key)}
end
section
variable {X : Cx}
end
end L2
namespace Sh
section
open Classical
variable {α : Type}
def Mod (T : α → α → Prop) (V : List α) (N : α → Prop) : Prop := ∀ x ∈ V, ¬ N x → (∀ n ∈ V, N n → T x n) ∨ ∀ n ∈ V, N n → T n x
def Holds (V : List α) (R : α → α → Prop) (N : α → Prop) : Prop := ∀ x ∈ V, ∀ y ∈ V, ∀ z ∈ V, R x y → R y z → N x → N z → N y

noncomputable def fl (V : List α) (p : α → Prop) : List α := V.filter fun x => @decide (p x) (propDecidable (p x))



end
end Sh
namespace Sh
section
variable {α : Type} {nb : α → List α}
end
end Sh
namespace Sh
end Sh
namespace L2
open PySem PySem.Spec PyProof.Rows
end L2
namespace L2
open PySem PySem.Spec PyProof.Rows
section
open PySem.SeqAt
open PySem.AutoSeq1 (wpAny_loadPart')
open PySem.MeetsSeq PySem.MeetsSeq2 PySem.MeetsSeq3
end
section
variable {X : Cx}
end
end L2
namespace L2
open PySem PySem.Spec PyProof.Rows
end L2
namespace Sh
end Sh

namespace L2
open PySem PySem.Spec PyProof.Rows

section
variable {P : Program} {w : World} {ch fs : List Addr} {H H' : Hp} {h h1 h2 : Heap}
end





section
variable {X : Cx} {pins : List (Addr × Obj)} {σ : St} {H : Hp} {s : Shared}




end
end L2
namespace L2
open PySem PySem.Spec PyProof.Rows
section
variable {prog : Program} {w : World} {A : Around} {E : Value → Shared → Prop} {K : PySem.W.Frag} {a C : Addr} {oe : Obj}
open PySem.W in
open PySem.W in
open PySem.W in
open PySem.W in
open PySem.W in
open PySem.W in
open PySem.W in
end
end L2
namespace L2
open PySem PySem.Spec PyProof.Rows
section
variable {P : Program} {w : World} {K : PySem.W.Frag} {mg : Str → Option Value} {base : Heap} {N : List Str} {qual : Str} {scope : Scope} {f : Addr} {cd : Value} {A : Around} {outer : List Env} {s : Shared} {H : Hp} {E : XK}
end


section
variable {X : Cx} {e : Expr} {te : TE} {x : Str} {C : Addr} {E : XK} {np cpos pos : Pos}

def PF (X : Cx) (e : Expr) (t : St → Hp → (Str → Hp → Prop) → Prop) : Prop :=
  ∀ (pins : List (Addr × Obj)) (s : Shared) (σ : St) (H : Hp) (Q : Str → Hp → Prop), Inv X pins σ H s → t σ H Q → wpAny (model X.prog X.w) X.A (eval e X.env) (fun u s' => ∃ x tk H', u = .str x tk ∧ Inv X pins σ H' s' ∧ Q x H') X.xe s
theorem pf_int {p : Pos} (he : PE X e te) : PF X (.FormattedValue e (-1) none p) (fun σ H Q => te σ H fun v H1 => ∃ i, v = .int i ∧ i.natAbs.log2 < 1920 ∧ Q (toString i : String) H1) := by
  intro pins s σ H Q I h
  refine FormattedValue_plain (thn (he pins s σ H _ I h) fun u s1 ⟨v, H1, I1, r, i, ev, lg, q⟩ => ?_)
  subst ev
  obtain ⟨t, rfl⟩ := r
  exact formatField_int_small lg ⟨_, _, H1, rfl, I1.tok _, q⟩
theorem pf_lit {x : Str} {j p} : PF X (.Constant (.str x) j p) (fun _ H Q => Q x H) := fun pins s σ H Q I h => Calls.Constant_str ⟨_, _, H, rfl, I.tok _, h⟩
inductive PFs (X : Cx) : List Expr → (St → Hp → Str → (Str → Hp → Prop) → Prop) → Prop where
  | nil : PFs X [] (fun _ H acc Q => Q acc H)
  | cons {e es te ts} : PF X e te → PFs X es ts → PFs X (e :: es) (fun σ H acc Q => te σ H fun y H1 => (acc ++ y).length ≤ sizeLine ∧ ts σ H1 (acc ++ y) Q)
theorem pfs_run {es : List Expr} {ts : St → Hp → Str → (Str → Hp → Prop) → Prop} (h : PFs X es ts) : ∀ {pins : List (Addr × Obj)} {s : Shared} {σ : St} {H : Hp} {acc : Str} {Q : Str → Hp → Prop}, Inv X pins σ H s → acc.length ≤ sizeLine → ts σ H acc Q →
    wpAny (model X.prog X.w) X.A (joinParts acc (evalEach es X.env)) (fun u s' => ∃ x tk H', u = .str x tk ∧ Inv X pins σ H' s' ∧ Q x H') X.xe s := by
  induction h with
  | nil => intro pins s σ H acc Q I z q; exact joinParts_nil ⟨_, _, H, rfl, I.tok _, q⟩ z
  | cons he hs ih =>
    intro pins s σ H acc Q I z q
    refine joinParts_cons (wpAny_mono (he pins s σ H _ I q) (fun u s1 h1 => ?_) fun _ _ y => y)
    obtain ⟨y, tk, H1, rfl, I1, l, q1⟩ := h1
    exact ⟨l, ih I1 l q1⟩
theorem pe_fstr {e1 e2 : Expr} {es : List Expr} {ts : St → Hp → Str → (Str → Hp → Prop) → Prop} {p : Pos} (h : PFs X (e1 :: e2 :: es) ts) :
    PE X (.JoinedStr (e1 :: e2 :: es) p) (fun σ H Q => ts σ H Str.empty fun x H1 => Q (.str x) H1) := by
  intro pins s σ H Q I q
  refine JoinedStr_many (wpAny_mono (pfs_run h I (by decide) q) (fun u s1 h1 => ?_) fun _ _ y => y)
  obtain ⟨x, tk, H1, rfl, I1, q1⟩ := h1
  exact ⟨.str x, H1, I1, ⟨tk, rfl⟩, q1⟩
end
end L2
namespace L2
open PySem PySem.Spec PyProof.Rows
section
variable {X : Cx} {pins pins' pn : List (Addr × Obj)} {σ : St} {H : Hp} {s : Shared} {A : Around} {calm : Bool} {xe : Value → Shared → Prop}

end

section
variable {X : Cx} {body suite : List Stmt} {b₀ : Stmt} {n x : Str} {i : Nat} {S : Addr} {np hpos pos : Pos} {tb : XK → TS} {ts : Addr → Addr → TS}
end
end L2
namespace L2
open PySem PySem.Spec PyProof.Rows
section
variable {P : Program} {w : World} {K : PySem.W.Frag} {mg : Str → Option Value} {base : Heap}
end
section
variable {X : Cx} {k : Nat} {C : Addr} {x m : Str} {ps : List Str} {sp : Sp} {E : XK} {p pos apos : Pos} {o e : Expr} {es : List Expr} {t : TA} {ta : TE}
end

theorem pe_cst {X : Cx} {x : Str} {v : V} {pos : Pos} (h : ∃ u, X.mg x = some u ∧ RelV v u) (hg : Gl X x) (hd : (x == ("__debug__" : Str)) = false := by decide) : PE X (.Name x pos) (tC v) := by
  obtain ⟨u, hm, r⟩ := h
  exact pe_glob hg hm r hd
open PySem.W in
open PySem.W in
section
variable {K : PySem.W.Frag} {mg : Str → Option Value}
end
end L2
namespace L2
open PySem PySem.Spec PyProof.Rows
section
variable {X : Cx} {e : Expr} {te : TE}
end
end L2

namespace Sh
open PySem
theorem str_ext {a b : Str} (h : a.cps.toList = b.cps.toList) : a = b := by
  cases a
  cases b
  congr 1
  exact Array.toList_inj.mp h
theorem str_app (a b : Str) : (a ++ b).cps.toList = a.cps.toList ++ b.cps.toList := by
  show (a.cps ++ b.cps).toList = _
  simp
theorem cut_inj {c : Nat} : ∀ {a b x y : List Nat}, c ∉ a → c ∉ b → a ++ c :: x = b ++ c :: y → a = b ∧ x = y
  | [], [], x, y, _, _, e => ⟨rfl, (List.cons.inj e).2⟩
  | [], z :: b, x, y, _, hb, e => absurd (List.mem_cons.mpr (.inl (List.cons.inj e).1)) hb
  | z :: a, [], x, y, ha, _, e => absurd (List.mem_cons.mpr (.inl (List.cons.inj e).1.symm)) ha
  | z :: a, u :: b, x, y, ha, hb, e => by
    have e1 := List.cons.inj e
    have := cut_inj (fun h => ha (List.mem_cons_of_mem _ h)) (fun h => hb (List.mem_cons_of_mem _ h)) e1.2
    exact ⟨by rw [e1.1, this.1], this.2⟩
theorem join_two (c : Nat) (a b : Str) (r : List Str) : (Str.join ⟨#[c]⟩ (a :: b :: r)).cps.toList = a.cps.toList ++ c :: (Str.join ⟨#[c]⟩ (b :: r)).cps.toList := by
  show (a ++ (⟨#[c]⟩ : Str) ++ Str.join ⟨#[c]⟩ (b :: r)).cps.toList = _
  rw [str_app, str_app]
  simp
theorem join_inj (c : Nat) : ∀ (p q : List Str), p ≠ [] → q ≠ [] → (∀ x ∈ p, c ∉ x.cps.toList) → (∀ x ∈ q, c ∉ x.cps.toList) → Str.join ⟨#[c]⟩ p = Str.join ⟨#[c]⟩ q → p = q
  | [], _, h, _, _, _, _ => absurd rfl h
  | _ :: _, [], _, h, _, _, _ => absurd rfl h
  | [a], [b], _, _, _, _, e => by rw [show a = b from e]
  | [a], b :: d :: r, _, _, ha, _, e => by
    have e1 : a.cps.toList = _ := (congrArg (fun z : Str => z.cps.toList) e).trans (join_two c b d r)
    exact absurd (by rw [e1]; simp) (ha a (by simp))
  | b :: d :: r, [a], _, _, _, ha, e => by
    have e1 : a.cps.toList = _ := (congrArg (fun z : Str => z.cps.toList) e.symm).trans (join_two c b d r)
    exact absurd (by rw [e1]; simp) (ha a (by simp))
  | a :: a' :: r, b :: b' :: t, _, _, ha, hb, e => by
    have e1 := congrArg (fun z : Str => z.cps.toList) e
    simp only [join_two] at e1
    have e2 := cut_inj (ha a (by simp)) (hb b (by simp)) e1
    have e3 := join_inj c (a' :: r) (b' :: t) (by simp) (by simp) (fun x hx => ha x (List.mem_cons_of_mem _ hx)) (fun x hx => hb x (List.mem_cons_of_mem _ hx)) (str_ext e2.2)
    rw [str_ext e2.1, e3]
theorem split_join {c : Nat} {p : List Str} (hp : p ≠ []) (hc : ∀ x ∈ p, c ∉ x.cps.toList) : Txt.split (Str.join ⟨#[c]⟩ p) ⟨#[c]⟩ = p := by
  refine join_inj c _ _ (fun e => ?_) hp (StrLaws.split_free _ c) hc (StrLaws.join_split _ _)
  have := PyProof.Rows.split_pos (Str.join ⟨#[c]⟩ p) ⟨#[c]⟩
  rw [e] at this
  simp at this
def figs (w : List Int) : Str := ⟨(w.map fun b => 49 + b.toNat).toArray⟩
def word (w : List Int) : Str := if w = [] then ⟨#[45]⟩ else figs w
def hd (m : Nat) : Str := ⟨#[48 + m, 58]⟩
theorem figs_list (w : List Int) : (figs w).cps.toList = w.map fun b => 49 + b.toNat := by unfold figs; simp
theorem figs_len (w : List Int) : (figs w).length = w.length := by unfold figs; simp [Str.length]
theorem word_len (w : List Int) : (word w).length ≤ w.length + 1 := by
  unfold word
  split
  · show 1 ≤ _; omega
  · rw [figs_len]; omega
theorem join_figs {e : Str} (he : e.cps.toList = []) : ∀ w : List Int, Str.join e (w.map fun b => figs [b]) = figs w
  | [] => rfl
  | [b] => rfl
  | b :: d :: r => by
    have ih := join_figs he (d :: r)
    refine str_ext ?_
    show (figs [b] ++ e ++ Str.join e ((d :: r).map fun b => figs [b])).cps.toList = _
    rw [str_app, str_app, ih, he, figs_list, figs_list, figs_list]
    rfl
theorem word_free {w : List Int} : 32 ∉ (word w).cps.toList := by
  unfold word
  split
  · simp
  · rw [figs_list]
    intro h
    obtain ⟨b, _, e⟩ := List.mem_map.mp h
    omega
theorem hd_free {m : Nat} : 32 ∉ (hd m).cps.toList := by
  unfold hd
  simp
  omega
theorem in_figs {b : Int} (h0 : 0 ≤ b) {w : List Int} (hw : ∀ x ∈ w, 0 ≤ x) : (!(Builtin.Str.occurrences (figs w) (figs [b]) 0 (figs w).length 1).isEmpty) = decide (b ∈ w) := by
  have := StrLaws.found_one (figs w) (49 + b.toNat)
  rw [show figs [b] = ⟨#[49 + b.toNat]⟩ from rfl, this, figs_list]
  refine decide_eq_decide.mpr ⟨fun h => ?_, fun h => List.mem_map.mpr ⟨b, h, rfl⟩⟩
  obtain ⟨x, hx, e⟩ := List.mem_map.mp h
  have := hw x hx
  obtain rfl : x = b := by omega
  exact hx
def text (m : Nat) (ws : List (List Int)) : Str := Str.join ⟨#[32]⟩ (hd m :: ws.map word)
theorem text_snoc (m : Nat) (ws : List (List Int)) (w : List Int) : text m (ws ++ [w]) = text m ws ++ ⟨#[32]⟩ ++ word w := by
  unfold text
  rw [List.map_append]
  have := PyProof.Rows.FinIter.join_snoc ⟨#[32]⟩ (word w) (hd m :: ws.map word)
  rw [if_neg (by simp)] at this
  exact this
theorem join_len (c : Nat) : ∀ (a : Str) (l : List Str), (∀ x ∈ a :: l, x.length ≤ 18) → (Str.join ⟨#[c]⟩ (a :: l)).length ≤ 19 * (l.length + 1)
  | a, [], h => by
    have := h a (by simp)
    show a.length ≤ _
    simp
    omega
  | a, b :: r, h => by
    have ih := join_len c b r fun x hx => h x (List.mem_cons_of_mem _ hx)
    have := h a (by simp)
    show (a ++ (⟨#[c]⟩ : Str) ++ Str.join ⟨#[c]⟩ (b :: r)).length ≤ _
    rw [Str.length_append, Str.length_append, List.length_cons]
    have : (⟨#[c]⟩ : Str).length = 1 := rfl
    omega
theorem text_len {m : Nat} {ws : List (List Int)} (h : ∀ w ∈ ws, w.length ≤ 17) : (text m ws).length ≤ 19 * (ws.length + 1) := by
  have := join_len 32 (hd m) (ws.map word) fun x hx => ?_
  · rw [List.length_map] at this
    exact this
  · rcases List.mem_cons.mp hx with rfl | z
    · show 2 ≤ 18; omega
    · obtain ⟨w, hw, rfl⟩ := List.mem_map.mp z
      have := word_len w
      have := h w hw
      omega
theorem text_split {m : Nat} (ws : List (List Int)) : Txt.split (text m ws) ⟨#[32]⟩ = hd m :: ws.map word := by
  refine split_join (by simp) fun x hx => ?_
  rcases List.mem_cons.mp hx with rfl | h
  · exact hd_free
  · obtain ⟨w, _, rfl⟩ := List.mem_map.mp h
    exact word_free
theorem eight {P : Int → Prop} (h : P 0 ∧ P 1 ∧ P 2 ∧ P 3 ∧ P 4 ∧ P 5 ∧ P 6 ∧ P 7) {b : Int} (h0 : 0 ≤ b) (h8 : b < 8) : P b := by
  obtain ⟨h1, h2, h3, h4, h5, h6, h7, h9⟩ := h
  have : b = 0 ∨ b = 1 ∨ b = 2 ∨ b = 3 ∨ b = 4 ∨ b = 5 ∨ b = 6 ∨ b = 7 := by omega
  rcases this with rfl | rfl | rfl | rfl | rfl | rfl | rfl | rfl <;> assumption
theorem fig_told {b : Int} (h0 : 0 ≤ b) (h8 : b < 8) : (Str.ofString (toString (b + 1))) = figs [b] :=
  eight (P := fun b => (Str.ofString (toString (b + 1))) = figs [b]) (by decide +kernel) h0 h8
theorem fig_index {b : Int} (h0 : 0 ≤ b) (h8 : b < 8) : Builtin.Str.occurrences (Str.ofString "12345678") (figs [b]) 0 (Str.ofString "12345678").length 1 = [b.toNat] :=
  eight (P := fun b => Builtin.Str.occurrences (Str.ofString "12345678") (figs [b]) 0 (Str.ofString "12345678").length 1 = [b.toNat]) (by decide +kernel) h0 h8
theorem fig_at {b : Int} (h0 : 0 ≤ b) (h8 : b < 8) : (Str.ofString "12345678").cps.toList[b.toNat]? = some (49 + b.toNat) :=
  eight (P := fun b => (Str.ofString "12345678").cps.toList[b.toNat]? = some (49 + b.toNat)) (by decide +kernel) h0 h8
theorem fig_cut {m : Nat} (h1 : 1 ≤ m) (h8 : m ≤ 8) : Txt.slice (Str.ofString "12345678") none (some (m : Int)) = figs (rangeI m) := by
  have : m = 1 ∨ m = 2 ∨ m = 3 ∨ m = 4 ∨ m = 5 ∨ m = 6 ∨ m = 7 ∨ m = 8 := by omega
  rcases this with rfl | rfl | rfl | rfl | rfl | rfl | rfl | rfl <;> decide +kernel
theorem hd_told {m : Nat} (h1 : 1 ≤ m) (h8 : m ≤ 8) : Str.ofString (toString (m : Int)) ++ Str.ofString ":" = hd m := by
  have : m = 1 ∨ m = 2 ∨ m = 3 ∨ m = 4 ∨ m = 5 ∨ m = 6 ∨ m = 7 ∨ m = 8 := by omega
  rcases this with rfl | rfl | rfl | rfl | rfl | rfl | rfl | rfl <;> decide +kernel
theorem norm_back {m : Nat} {w : List Int} (h8 : m ≤ 8) (hg : Good m w) : (rangeI m).filter (fun b => decide (b ∈ norm w)) = norm w := by
  have key : ∀ n, m ≤ n → n ≤ 8 → (rangeI n).filter (fun b => decide (b ∈ w)) = (rangeI m).filter (fun b => decide (b ∈ w)) := by
    intro n
    induction n with
    | zero => intro h _; rw [show m = 0 by omega]
    | succ n ih =>
      intro h h2
      by_cases e : m = n + 1
      · rw [e]
      · rw [rangeI_succ, List.filter_append, ih (by omega) (by omega)]
        have : decide ((n : Int) ∈ w) = false := decide_eq_false fun z => by
          have := hg.1 _ z
          omega
        simp [this]
  have e1 : (rangeI m).filter (fun b => decide (b ∈ norm w)) = (rangeI m).filter (fun b => decide (b ∈ w)) := by
    refine List.filter_congr fun b _ => decide_eq_decide.mpr (mem_norm h8 hg)
  rw [e1]
  exact (key 8 h8 (Nat.le_refl _)).symm
theorem norm_len (w : List Int) : (norm w).length ≤ 8 := by
  have := List.length_filter_le (fun b => decide (b ∈ w)) (rangeI 8)
  rw [rangeI_len] at this
  exact this
theorem norm_nil {m : Nat} {w : List Int} (h8 : m ≤ 8) (hg : Good m w) : norm w = [] ↔ w = [] := by
  constructor
  · intro h
    cases w with
    | nil => rfl
    | cons a r =>
      have := (mem_norm h8 hg (b := a)).mpr (by simp)
      rw [h] at this
      cases this
  · rintro rfl
    rfl
end Sh
namespace L2
open PySem PySem.Spec PyProof.Rows
def Its (x : Str) : It := ⟨fun i _ => i < x.cps.size, fun i H v H' => H' = H ∧ ∃ c, x.cps[i]? = some c ∧ v = .str ⟨#[c]⟩, fun i _ => x.cps.size ≤ i⟩
def strIt (b : Bool) : String := if b then "str_ascii_iterator" else "str_iterator"
theorem turn_str {P : Program} {w : World} {K : PySem.W.Frag} {tg : Expr} (b : Bool) (x : Str) (t : Tok) (it : Addr) : Turn P w K tg (Its x) [it] it (fun i h => h.IsStrIter it (strIt b) x t i) where
  mem := by simp
  obj := fun i h st c hb => by
    obtain rfl : c = it := by simpa using hb
    obtain ⟨o, e, _, d⟩ := st
    exact ⟨o, e, fun v z => by rw [d] at z; cases z⟩
  keep := fun i h h' st k => by
    obtain ⟨o, e, r⟩ := st
    exact ⟨o, k it (by simp) o e, r⟩
  item := by
    intro X hP hw hK hc i pins s σ H E I hf st hg
    subst hP hw hK
    obtain ⟨f0, f1, f2, f3, f4, f5⟩ := hf it (by simp)
    have hi : i < x.cps.size := hg
    obtain ⟨c, hcx⟩ : ∃ c, x.cps[i]? = some c := ⟨x.cps[i], by simp [hi]⟩
    cases b
    · refine wpAny_pyNext_wide_item st hcx fun h' st' sb => ?_
      have I1 : Inv X pins σ H { s with heap := h', toks := s.toks + 1 } := I.turned (fun b o hb e => (sb.2 b hb).trans e) f0 f1 f3 f4 f5
      obtain ⟨o, e, cc, d⟩ := id st'
      exact ⟨_, rfl, go_of (s := { s with heap := h', toks := s.toks + 1 }) e cc d (by decide) ⟨.str ⟨#[c]⟩, H, I1, ⟨_, rfl⟩, ⟨rfl, c, hcx, rfl⟩, st', fun b hb => (hf b hb).1⟩⟩
    · refine wpAny_pyNext_ascii_item st hcx fun h' st' sb => ?_
      have I1 : Inv X pins σ H { s with heap := h', toks := s.toks + 1 } := I.turned (fun b o hb e => (sb.2 b hb).trans e) f0 f1 f3 f4 f5
      obtain ⟨o, e, cc, d⟩ := id st'
      exact ⟨_, rfl, go_of (s := { s with heap := h', toks := s.toks + 1 }) e cc d (by decide) ⟨.str ⟨#[c]⟩, H, I1, ⟨_, rfl⟩, ⟨rfl, c, hcx, rfl⟩, st', fun b hb => (hf b hb).1⟩⟩
  done := by
    intro X hP hw hK hc i pins s σ H E I hf st hg
    subst hP hw hK
    obtain ⟨f0, f1, f2, f3, f4, f5⟩ := hf it (by simp)
    have hi : x.cps.size ≤ i := hg
    have hn : x.cps[i]? = none := by simp [hi]
    cases b
    · exact wpAny_pyNext_wide_end (I.ok.hd hc) st hn fun h' eb => ⟨rfl, I.turned (t' := s.toks) (fun b o hb e => eb b o hb e) f0 f1 f3 f4 f5⟩
    · exact wpAny_pyNext_ascii_end (I.ok.hd hc) st hn fun h' eb => ⟨rfl, I.turned (t' := s.toks) (fun b o hb e => eb b o hb e) f0 f1 f3 f4 f5⟩
  self := fun _ _ _ _ _ st h => by
    cases b
    · exact wpAny_pyIter_striter_wide st h
    · exact wpAny_pyIter_striter_ascii st h
section
variable {X : Cx} {tg e : Expr} {te : TE}
def iStr (te : TE) : TI := fun σ H R => te σ H fun v H1 => ∃ x, v = .str x ∧ R (Its x) H1
theorem pi_str (he : PE X e te) : PI X tg e (iStr te) := by
  intro pins s σ H R I h
  refine thn (he pins s σ H _ I h) fun v s1 ⟨y, H1, I1, r1, q1⟩ => ?_
  obtain ⟨x, rfl, q⟩ := q1
  obtain ⟨t, rfl⟩ := r1
  have f : ∀ {b : Addr}, b ∈ [s1.heap.objs.size] → FpOk X pins H1 b := fun {b} hb => by
    obtain rfl : b = s1.heap.objs.size := by simpa using hb
    exact I1.fpOk (Nat.le_refl _) (I1.hok.fresh (Nat.le_refl _))
  cases ha : x.cps.all (· < 128)
  · exact wpAny_pyIter_wide ha ⟨_, [_], _, _, H1, rfl, I1.kept (t' := s1.toks) fun b o e => Heap.get?_push_of_some _ e, turn_str false x t _, ⟨_, Heap.get?_push_size _ rfl, rfl, rfl⟩, fun b hb => f hb, q⟩
  · exact wpAny_pyIter_ascii ha ⟨_, [_], _, _, H1, rfl, I1.kept (t' := s1.toks) fun b o e => Heap.get?_push_of_some _ e, turn_str true x t _, ⟨_, Heap.get?_push_size _ rfl, rfl, rfl⟩, fun b hb => f hb, q⟩
end
section
variable {l : Addr} {g : TG} {tt : TT} {te : TE} {σ0 : St} {H : Hp} {Q : Hp → Prop}
theorem c_str {x : Str} (Pv : Nat → List V → St → Hp → Prop) (h0 : Pv 0 [] σ0 H)
    (hs : ∀ i c ys σ H, x.cps[i]? = some c → Pv i ys σ H → g (.str ⟨#[c]⟩) σ H fun σ2 H2 => tt σ2 H2 fun b H3 =>
      if b = true then te σ2 H3 fun y H4 => H4 l = some (.lst ys) ∧ ys.length < sizeLine ∧ Pv (i + 1) (ys ++ [y]) σ2 (upd H4 l (.lst (ys ++ [y]))) else Pv (i + 1) ys σ2 H3)
    (hd : ∀ ys σ H, Pv x.cps.size ys σ H → Q H) : cLoop (Its x) l g tt te σ0 H Q := by
  refine ⟨fun i m ys σ H => m = x.cps.size - i ∧ i ≤ x.cps.size ∧ Pv i ys σ H, ⟨x.cps.size, by simp, Nat.zero_le _, h0⟩, ?_⟩
  rintro i m ys σ H ⟨rfl, hi, p⟩
  by_cases hlt : i < x.cps.size
  · refine .inr ⟨hlt, Pv (i + 1), fun zs σ' H' z => ⟨x.cps.size - (i + 1), by omega, rfl, hlt, z⟩, fun v H' y => ?_⟩
    obtain ⟨e, c, hcx, ev⟩ := y
    subst e ev
    exact hs i c ys σ _ hcx p
  · obtain rfl : i = x.cps.size := by omega
    exact .inl ⟨Nat.le_refl _, hd ys σ H p⟩
end
theorem strs_of {zs : List Str} : ∀ {us : List Value}, Vals (zs.map V.str) us → StrsAre us zs := by
  induction zs with
  | nil => intro us h; cases h; exact .nil
  | cons z r ih =>
    intro us h
    rw [List.map_cons] at h
    cases h with
    | cons r1 r2 =>
      obtain ⟨t, rfl⟩ := r1
      exact .cons _ _ (ih r2)
theorem vals_strs : ∀ l : List (Str × Tok), Vals ((l.map (·.1)).map V.str) (strValues l)
  | [] => .nil
  | (_, t) :: r => .cons ⟨t, rfl⟩ (vals_strs r)
section
variable {X : Cx} {o e : Expr} {es : List Expr} {to : TE} {t : TA} {name : Str} {apos cpos : Pos} {id : String} {r : V → List V → Hp → VK → Prop}
def tSM (r : V → List V → Hp → VK → Prop) (to : TE) (t : TA) : TE := fun σ H Q => to σ H fun x H1 => ∃ z, x = .str z ∧ t σ H1 fun xs H2 => r x xs H2 Q
theorem pe_sm (slot : Slot "str" name id) (hty : typeOf (.builtin id) = pure (.type "method_descriptor")) (hm : MtM X id r) (ho : PE X o to) (ha : PA X (e :: es) t)
    (hbase : attributeBase o name X.env (eval o X.env) = eval o X.env := by rfl)
    (hfew : ((backTo cpos (starEach (e :: es) X.env)).all (fun x => !x.1) && (backToKw cpos (keywordEach [] X.env)).all (fun x => x.1.isSome)
      && decide ((e :: es).length + ([] : List Keyword).length + (if ([] : List Keyword).isEmpty then 0 else 1) < 30)) = true := by rfl)
    (hline : (apos.endLine == cpos.line) = true := by rfl) (hs : starEach (e :: es) X.env = (false, eval e X.env) :: starEach es X.env := by rfl) (hplain : (backTo cpos (starEach es X.env)).any (·.1) = false := by rfl) :
    PE X (.Call (.Attribute o name apos) (e :: es) [] cpos) (tSM r to t) := by
  intro pins s σ H Q I h
  refine wpAny_Call_method_late hbase hfew hline rfl (thn (ho pins s σ H _ I h) fun v s1 ⟨x, H1, I1, r1, z, ez, q1⟩ => ?_)
  subst ez
  obtain ⟨h1, h2⟩ := tyV_is (T := "str") I1 r1 rfl
  refine ⟨"str", id, PySem.F.plainAttrs_str, slot, hty, h1, h2, ?_⟩
  have hA := ha cpos pins s1 σ H1 _ I1 q1
  rw [hs] at hA ⊢
  refine Calls.callWith_builtin (by show (false || (backTo cpos (starEach es X.env)).any (·.1)) = false; rw [hplain] <;> rfl) (Calls.evalArgs_plain ?_)
  exact thn hA fun us s2 ⟨vs, H2, I2, r2, q2⟩ => hm pins s2 σ H2 _ vs v us Q I2 r1 r2 q2
def rJoin : V → List V → Hp → VK → Prop := fun x vs H Q => ∃ (y : Str) (l : Addr) (zs : List Str), x = .str y ∧ vs = [.ref l] ∧ H l = some (.lst (zs.map V.str)) ∧ y.length ≤ 16 ∧ (zs.map (·.length)).sum + zs.length ≤ 1048576 ∧ Q (.str (Str.join y zs)) H
theorem mt_join : MtM X "str.join" rJoin := by
  intro pins s σ H x vs v us Q I rx rv h
  obtain ⟨y, l, zs, rfl, rfl, hH, hy, hw, q⟩ := h
  obtain ⟨t, rfl⟩ := rx
  obtain ⟨u, rfl, ru⟩ := rv.one
  cases ru
  obtain ⟨zz, its, n, rr, hl, e⟩ := I.lstM hH
  refine join_listW (items := its.toArray) ⟨_, e, rfl, _, rfl⟩ (strs_of rr) hy hw fun t' k => ⟨.str (Str.join y zs), H, I.tok _, ⟨t', ?_⟩, q⟩
  show Value.str (PySem.Txt.join y zs) t' = _
  unfold PySem.Txt.join
  rw [StrLaws.glued_eq_join]
def rSplit : V → List V → Hp → VK → Prop := fun x vs H Q => ∃ z y : Str, x = .str z ∧ vs = [.str y] ∧ (y.length == 0) = false ∧ z.length + 2 ≤ sizeLine ∧ ∀ p, H p = none → Q (.ref p) (upd H p (.lst ((PySem.Txt.split z y).map V.str)))
theorem mt_split : MtM X "str.split" rSplit := by
  intro pins s σ H x vs v us Q I rx rv h
  obtain ⟨z, y, rfl, rfl, hy, hz, q⟩ := h
  obtain ⟨t, rfl⟩ := rx
  obtain ⟨u, rfl, ru⟩ := rv.one
  obtain ⟨u', rfl⟩ := ru
  have hy1 : 1 ≤ y.length := by
    have : y.length ≠ 0 := fun c => by rw [c] at hy; cases hy
    omega
  have hw := split_weight z y hy1
  have goal : ∀ (l : List (Str × Tok)) (k : Nat), l.map (·.1) = PySem.Txt.split z y → EP X pins σ Q (.ref s.heap.objs.size) { s with heap := s.heap.push { cls := .type "list", data := .seq (strValues l).toArray }, toks := k } := fun l k e =>
    ⟨.ref _, _, I.lnew (t' := k) (vals_strs l) (by rw [List.length_map, e]; omega), rfl, by rw [e]; exact q _ I.fresh⟩
  cases c1 : (decide (z.length < y.length) || decide (Builtin.Str.strKind z < Builtin.Str.strKind y)) with
  | true =>
    refine call_meets F.slot_str_split (typeIs_str _ _ _) F.entry_str_split (F.args_str_split_2 _ _) (meets_str_split_cannot_occur z y t u' c1) (goal [(z, t)] s.toks ?_)
    unfold PySem.Txt.split
    rw [if_pos c1]
    rfl
  | false =>
    cases c2 : (Builtin.Str.occurrences z y 0 z.length (z.length + 1)).isEmpty with
    | true =>
      refine call_meets F.slot_str_split (typeIs_str _ _ _) F.entry_str_split (F.args_str_split_2 _ _) (meets_str_split_not_found z y t u' c1 hy c2) (goal [(z, t)] s.toks ?_)
      unfold PySem.Txt.split
      rw [if_neg (by rw [c1]; decide), if_pos c2]
      rfl
    | false =>
      have es : PySem.Txt.split z y = Builtin.Str.partsBetween z (Builtin.Str.occurrences z y 0 z.length (z.length + 1)) y.length := by
        unfold PySem.Txt.split
        rw [if_neg (by rw [c1]; decide), if_neg (by rw [c2]; decide)]
      have hl : (Builtin.Str.partsBetween z (Builtin.Str.occurrences z y 0 z.length (z.length + 1)) y.length).length ≤ sizeLine := by rw [← es]; omega
      refine call_meets F.slot_str_split (typeIs_str _ _ _) F.entry_str_split (F.args_str_split_2 _ _) (meets_str_split_sep z y t u' c1 hy c2 (by omega) hl) ?_
      have g := goal (numbered s.toks (Builtin.Str.partsBetween z (Builtin.Str.occurrences z y 0 z.length (z.length + 1)) y.length))
      rw [← strsFrom_eq] at g
      exact g _ ((numbered_texts _ _).trans es.symm)
def rSIndex : V → List V → Hp → VK → Prop := fun x vs H Q => ∃ (z y : Str) (i : Nat) (rest : List Nat), x = .str z ∧ vs = [.str y] ∧ Builtin.Str.occurrences z y 0 z.length 1 = i :: rest ∧ Q (.int i) H
theorem mt_sindex : MtM X "str.index" rSIndex := by
  intro pins s σ H x vs v us Q I rx rv h
  obtain ⟨z, y, i, rest, rfl, rfl, ho, q⟩ := h
  obtain ⟨t, rfl⟩ := rx
  obtain ⟨u, rfl, ru⟩ := rv.one
  obtain ⟨u', rfl⟩ := ru
  exact SC.index ho ⟨.int i, H, I.tok _, ⟨_, rfl⟩, q⟩
end
section
variable {X : Cx}
def rSlS : V → Option Int → Option Int → Hp → VK → Prop := fun x lo hi H Q => ∃ z, x = .str z ∧ z.length ≤ sizeLine ∧ Q (.str (PySem.Txt.slice z lo hi)) H
theorem sl_str : SlR X rSlS := by
  intro pins s σ H x v vl vu lo hi sl Q I rx hs pl pu h
  obtain ⟨z, rfl, hz, q⟩ := h
  obtain ⟨t, rfl⟩ := rx
  refine ⟨"str", _, F.slot_str_getitem.lookup, typeIs_str _ _ _, ?_⟩
  have fin : ∀ (t' : Tok) (k : Nat), EP X pins σ Q (.str (PySem.Txt.slice z lo hi) t') { s with toks := k } := fun t' k => ⟨.str _, H, I.tok _, ⟨t', rfl⟩, q⟩
  have len := Nat.le_trans (PySem.Txt.slice_le z lo hi) hz
  cases pl with
  | none => cases pu with
    | none => exact wpAny_getItem_str_slice (l := none) (u := none) (st := none) hs rfl (post_val_or_str ⟨len, fin⟩)
    | int j uj => exact wpAny_getItem_str_slice (l := none) (u := some (j, uj)) (st := none) hs rfl (post_val_or_str ⟨len, fin⟩)
  | int i ui => cases pu with
    | none => exact wpAny_getItem_str_slice (l := some (i, ui)) (u := none) (st := none) hs rfl (post_val_or_str ⟨len, fin⟩)
    | int j uj => exact wpAny_getItem_str_slice (l := some (i, ui)) (u := some (j, uj)) (st := none) hs rfl (post_val_or_str ⟨len, fin⟩)
end
section
variable {X : Cx} {c a b : Expr} {tt : TT} {ta tb : TE} {pos : Pos}
def tIfE (tt : TT) (ta tb : TE) : TE := fun σ H Q => tt σ H fun k H1 => if k = true then ta σ H1 Q else tb σ H1 Q
theorem pe_ife (hc : PT X c tt) (ha : PE X a ta) (hb : PE X b tb) : PE X (.IfExp c a b pos) (tIfE tt ta tb) := by
  intro pins s σ H Q I h
  refine wpAny_IfExp (thn (hc pins s σ H _ I h) fun k s1 ⟨H1, I1, q⟩ => ?_)
  cases k with
  | true => rw [if_pos rfl] at q ⊢; exact ha pins s1 σ H1 Q I1 q
  | false => rw [if_neg Bool.false_ne_true] at q ⊢; exact hb pins s1 σ H1 Q I1 q
end
section
variable {X : Cx} {e : Expr} {te : TE}
end
end L2
namespace L2
open PySem PySem.Spec PyProof.Rows
theorem paired_mem {α β : Type} {F G : α → β → Prop} : ∀ {l₁ : List α} {l₂ : List β}, Paired F l₁ l₂ → (∀ a b, a ∈ l₁ → F a b → G a b) → Paired G l₁ l₂
  | _, _, .nil, _ => .nil
  | _, _, .cons p t, f => .cons (f _ _ (by simp) p) (paired_mem t fun a b ha e => f a b (List.mem_cons_of_mem _ ha) e)
theorem paired_upd {H : Hp} {g : Addr → Prop} {b : Addr} {x : List Int} : ∀ {as : List Addr} {ws : List (List Int)} {k : Nat}, Paired (fun c w => g c ∧ H c = some (.lst (w.map V.int))) as ws → as.Nodup → as[k]? = some b →
    Paired (fun c w => g c ∧ upd H b (.lst (x.map V.int)) c = some (.lst (w.map V.int))) as (ws.set k x)
  | _, _, _, .nil, _, h => by cases h
  | _, _, 0, .cons (l₁ := r) p t, nd, h => by
    obtain rfl := Option.some.inj h
    have n := (List.nodup_cons.mp nd).1
    refine .cons ⟨p.1, upd_same⟩ (paired_mem t fun c w hc e => ⟨e.1, ?_⟩)
    rw [upd_ne fun z => n (by rw [← z]; exact hc)]
    exact e.2
  | _, _, k + 1, .cons (l₁ := r) p t, nd, h => by
    have n := (List.nodup_cons.mp nd).1
    have hb : b ∈ r := List.mem_of_getElem? (i := k) h
    refine .cons ⟨p.1, ?_⟩ (paired_upd t (List.nodup_cons.mp nd).2 h)
    rw [upd_ne fun z => n (by rw [z]; exact hb)]
    exact p.2
def marks (ws : List (List Int)) : List (List Int) := ws.mapIdx fun i w => w ++ [50 + (i : Int)]
theorem marks_snoc (ws : List (List Int)) (w : List Int) : marks (ws ++ [w]) = marks ws ++ [w ++ [50 + (ws.length : Int)]] := by
  unfold marks
  rw [List.mapIdx_concat]
theorem marks_len (ws : List (List Int)) : (marks ws).length = ws.length := by
  unfold marks
  rw [List.length_mapIdx]
theorem marks_set {ws : List (List Int)} {k : Nat} {w : List Int} (h : ws[k]? = some w) : (marks (ws.take k) ++ ws.drop k).set k (w ++ [50 + (k : Int)]) = marks (ws.take (k + 1)) ++ ws.drop (k + 1) := by
  obtain ⟨hk, e⟩ := List.getElem?_eq_some_iff.mp h
  have l1 : (ws.take k).length = k := by rw [List.length_take]; omega
  have l2 : (marks (ws.take k)).length = k := by rw [marks_len, l1]
  rw [List.take_add_one, h, Option.toList_some, marks_snoc, l1, List.set_append_right _ _ (by omega), l2, Nat.sub_self, List.drop_eq_getElem_cons hk, List.set_cons_zero, List.append_assoc]
  rfl
theorem marks_at {ws : List (List Int)} {k : Nat} {w : List Int} (h : ws[k]? = some w) : (marks (ws.take k) ++ ws.drop k)[k]? = some w := by
  obtain ⟨hk, e⟩ := List.getElem?_eq_some_iff.mp h
  have l1 : (ws.take k).length = k := by rw [List.length_take]; omega
  have l2 : (marks (ws.take k)).length = k := by rw [marks_len, l1]
  rw [List.getElem?_append_right (by omega), l2, Nat.sub_self, List.drop_eq_getElem_cons hk, List.getElem?_cons_zero, e]
structure Own (H0 H : Hp) (lw : Addr) (as : List Addr) (ws : List (List Int)) : Prop where
  at_ : H lw = some (.lst (as.map V.ref))
  nw : H0 lw = none
  nd : as.Nodup
  pr : Paired (fun b w => (b ≠ lw ∧ H0 b = none) ∧ H b = some (.lst (w.map V.int))) as ws
theorem Own.wl {H0 H : Hp} {lw : Addr} {as : List Addr} {ws : List (List Int)} (o : Own H0 H lw as ws) : WL H lw ws := ⟨as, o.at_, Paired.mapP o.pr fun _ _ e => e.2⟩
theorem Own.len {H0 H : Hp} {lw : Addr} {as : List Addr} {ws : List (List Int)} (o : Own H0 H lw as ws) : as.length = ws.length := Paired.length o.pr
theorem Own.same {H0 H H' : Hp} {lw : Addr} {as : List Addr} {ws : List (List Int)} (o : Own H0 H lw as ws) (s : Same H H') : Own H0 H' lw as ws := ⟨s _ _ o.at_, o.nw, o.nd, Paired.mapP o.pr fun _ _ e => ⟨e.1, s _ _ e.2⟩⟩
theorem Own.put {H0 H : Hp} {lw : Addr} {as : List Addr} {ws : List (List Int)} {k : Nat} {b : Addr} {x : List Int} (o : Own H0 H lw as ws) (h : as[k]? = some b) : Own H0 (upd H b (.lst (x.map V.int))) lw as (ws.set k x) := by
  obtain ⟨w, _, e⟩ := paired_get1 o.pr h
  exact ⟨by rw [upd_ne (Ne.symm e.1.1)]; exact o.at_, o.nw, o.nd, paired_upd o.pr o.nd h⟩
theorem Own.snoc {H0 H : Hp} {lw : Addr} {as : List Addr} {ws : List (List Int)} {H' : Hp} {c : Addr} {w : List Int} (o : Own H0 H lw as ws) (s : Same H H') (fc : H c = none) (hc : H' c = some (.lst (w.map V.int))) (f0 : H0 c = none) :
    Own H0 (upd H' lw (.lst (as.map V.ref ++ [V.ref c]))) lw (as ++ [c]) (ws ++ [w]) := by
  have ncl : c ≠ lw := fun z => by rw [z, o.at_] at fc; cases fc
  refine ⟨by rw [upd_same, List.map_append]; rfl, o.nw, ?_, Paired.snoc (Paired.mapP o.pr fun b w e => ⟨e.1, ?_⟩) ⟨⟨ncl, f0⟩, ?_⟩⟩
  · refine List.nodup_append.mpr ⟨o.nd, by simp, fun a ha b hb => ?_⟩
    obtain rfl : b = c := by simpa using hb
    rintro rfl
    obtain ⟨i, hi⟩ := List.getElem?_of_mem ha
    obtain ⟨w', _, e⟩ := paired_get1 o.pr hi
    rw [fc] at e
    cases e.2
  · rw [upd_ne e.1.1]
    exact s _ _ e.2
  · rw [upd_ne ncl]
    exact hc
end L2
namespace Sh
open PySem
structure Ris (m : Nat) (w : List Int) : Prop where
  lt : ∀ b ∈ w, 0 ≤ b ∧ b < (m : Int)
  up : w.Pairwise (· < ·)
theorem Ris.nil (m : Nat) : Ris m [] := ⟨fun _ h => absurd h (by simp), .nil⟩
theorem rangeI_ris (m : Nat) : (rangeI m).Pairwise (· < ·) := by
  induction m with
  | zero => exact .nil
  | succ n ih =>
    rw [rangeI_succ]
    refine List.pairwise_append.mpr ⟨ih, by simp, fun x hx y hy => ?_⟩
    rw [List.mem_singleton.mp hy]
    exact (mem_rangeI.mp hx).2
theorem filter_ris (m : Nat) (p : Int → Bool) : Ris m ((rangeI m).filter p) := ⟨fun b hb => mem_rangeI.mp (List.mem_filter.mp hb).1, (rangeI_ris m).sublist List.filter_sublist⟩
theorem ris_ext : ∀ {v w : List Int}, v.Pairwise (· < ·) → w.Pairwise (· < ·) → (∀ x, x ∈ v ↔ x ∈ w) → v = w
  | [], [], _, _, _ => rfl
  | [], b :: _, _, _, h => absurd ((h b).mpr (by simp)) (by simp)
  | a :: _, [], _, _, h => absurd ((h a).mp (by simp)) (by simp)
  | a :: v, b :: w, hv, hw, h => by
    have v1 := List.pairwise_cons.mp hv
    have w1 := List.pairwise_cons.mp hw
    have e : a = b := by
      rcases List.mem_cons.mp ((h a).mp (by simp)) with z | z
      · exact z
      · rcases List.mem_cons.mp ((h b).mpr (by simp)) with y | y
        · exact y.symm
        · have := w1.1 a z
          have := v1.1 b y
          omega
    subst e
    rw [ris_ext v1.2 w1.2 fun x => ⟨fun z => ?_, fun z => ?_⟩]
    · rcases List.mem_cons.mp ((h x).mp (List.mem_cons_of_mem _ z)) with y | y
      · have := v1.1 x z
        omega
      · exact y
    · rcases List.mem_cons.mp ((h x).mpr (List.mem_cons_of_mem _ z)) with y | y
      · have := w1.1 x z
        omega
      · exact y
theorem ris_back {m : Nat} {w : List Int} (h : Ris m w) : (rangeI m).filter (fun b => decide (b ∈ w)) = w := by
  refine ris_ext (filter_ris m _).up h.up fun x => ?_
  rw [List.mem_filter, decide_eq_true_iff]
  exact ⟨fun z => z.2, fun z => ⟨mem_rangeI.mpr (h.lt x z), z⟩⟩
theorem Ris.len {m : Nat} {w : List Int} (h : Ris m w) : w.length ≤ m := by
  have := List.length_filter_le (fun b => decide (b ∈ w)) (rangeI m)
  rw [ris_back h, rangeI_len] at this
  exact this
end Sh
namespace L2
open PySem PySem.Spec PyProof.Rows
section
variable {M : Model} {A : Around} {EE : Value → Shared → Prop} {s : Shared}
end
section
variable {X : Cx} {pins : List (Addr × Obj)} {σ : St} {H : Hp} {s : Shared}
end
section
variable {P : Program} {w : World} {K : PySem.W.Frag} {mg : Str → Option Value} {base : Heap} {N : List Str} {qual : Str} {scope : Scope} {f : Addr} {cd : Value} {A : Around} {outer : List Env} {s : Shared} {H : Hp} {E : XK}
end

section
variable {X : Cx} {pins : List (Addr × Obj)} {σ : St} {H : Hp} {s : Shared} {elt tg iter : Expr} {ifs : List Expr} {sc : Scope} {pos : Pos} {own : List Str} {cap : List (Str × Nat)} {wi : TI} {g : TG} {tt : TT} {te : TE}
end
end L2

namespace K13
open PySem L2
set_option maxRecDepth 100000
def top (i : Nat) : Stmt := PySem.Challenge.pw_shelfruns_k13_written_and_read.main.body.getD i (.Pass ⟨0, 0, 0, 0⟩)
abbrev s__law_cell_at : Stmt := top 17
theorem sc__law_cell_at : FnScope ["script", "k"] ["script", "k"] (defScope s__law_cell_at) := ⟨rfl, rfl, rfl, by decide +kernel, rfl, by decide +kernel, by decide +kernel⟩
abbrev s__law_set : Stmt := top 19
theorem sc__law_set : FnScope ["cell", "many", "some", "book"] ["cell", "many"] (defScope s__law_set) := ⟨rfl, rfl, rfl, by decide +kernel, rfl, by decide +kernel, by decide +kernel⟩
abbrev s__law_order : Stmt := top 20
theorem sc__law_order : FnScope ["script", "at", "many", "left", "order", "k"] ["script", "at", "many"] (defScope s__law_order) := ⟨rfl, rfl, rfl, by decide +kernel, rfl, by decide +kernel, by decide +kernel⟩
abbrev s__law_wish : Stmt := top 21
theorem sc__law_wish : FnScope ["cell", "many", "order", "low", "size", "wish"] ["cell", "many", "order"] (defScope s__law_wish) := ⟨rfl, rfl, rfl, by decide +kernel, rfl, by decide +kernel, by decide +kernel⟩
abbrev s__law_wishes : Stmt := top 22
theorem sc__law_wishes : FnScope ["script", "at", "most", "few", "cell", "many", "count", "order", "wishes", "k", "one", "other"] ["script", "at", "most", "few"] (defScope s__law_wishes) := ⟨rfl, rfl, rfl, by decide +kernel, rfl, by decide +kernel, by decide +kernel⟩
abbrev s_check_books : Stmt := top 6
theorem sc_check_books : FnScope ["many", "books", "book"] ["many", "books"] (defScope s_check_books) := ⟨rfl, rfl, rfl, by decide +kernel, rfl, by decide +kernel, by decide +kernel⟩
abbrev s_check_wishes : Stmt := top 7
theorem sc_check_wishes : FnScope ["many", "wishes", "wish"] ["many", "wishes"] (defScope s_check_wishes) := ⟨rfl, rfl, rfl, by decide +kernel, rfl, by decide +kernel, by decide +kernel⟩
abbrev s_shown_wish : Stmt := top 13
theorem sc_shown_wish : FnScope ["wish"] ["wish"] (defScope s_shown_wish) := ⟨rfl, rfl, rfl, by decide +kernel, rfl, by decide +kernel, by decide +kernel⟩
abbrev own_shown_wish_c0 : List Str := ["book"]
abbrev cap_shown_wish_c0 : List (Str × Nat) := []
abbrev lc_shown_wish_c0 : Scope := { kind := PySem.ScopeKind.function, names := [(PySem.Str.ofString ".0", PySem.NameKind.local), (PySem.Str.ofString "book", PySem.NameKind.local), (PySem.Str.ofString "str", PySem.NameKind.globalImplicit)], isGenerator := false, isCoroutine := false, more := [] }
theorem nd_shown_wish_c0 : (own_shown_wish_c0 ++ cap_shown_wish_c0.map (·.1)).Nodup := by decide +kernel
theorem bs_shown_wish_c0 : BlkSc ["wish"] (defScope s_shown_wish) own_shown_wish_c0 cap_shown_wish_c0 lc_shown_wish_c0 := ⟨rfl, by decide +kernel, by decide +kernel, by decide +kernel, by decide +kernel⟩
abbrev s_shown : Stmt := top 11
theorem sc_shown : FnScope ["many", "wishes"] ["many", "wishes"] (defScope s_shown) := ⟨rfl, rfl, rfl, by decide +kernel, rfl, by decide +kernel, by decide +kernel⟩
abbrev own_shown_c0 : List Str := ["wish"]
abbrev cap_shown_c0 : List (Str × Nat) := []
abbrev lc_shown_c0 : Scope := { kind := PySem.ScopeKind.function, names := [(PySem.Str.ofString ".0", PySem.NameKind.local), (PySem.Str.ofString "wish", PySem.NameKind.local), (PySem.Str.ofString "shown_wish", PySem.NameKind.globalImplicit)], isGenerator := false, isCoroutine := false, more := [] }
theorem nd_shown_c0 : (own_shown_c0 ++ cap_shown_c0.map (·.1)).Nodup := by decide +kernel
theorem bs_shown_c0 : BlkSc ["many", "wishes"] (defScope s_shown) own_shown_c0 cap_shown_c0 lc_shown_c0 := ⟨rfl, by decide +kernel, by decide +kernel, by decide +kernel, by decide +kernel⟩
abbrev s_read_many : Stmt := top 14
theorem sc_read_many : FnScope ["word"] ["word"] (defScope s_read_many) := ⟨rfl, rfl, rfl, by decide +kernel, rfl, by decide +kernel, by decide +kernel⟩
abbrev s_read_wish : Stmt := top 15
theorem sc_read_wish : FnScope ["many", "word", "rising"] ["many", "word"] (defScope s_read_wish) := ⟨rfl, rfl, rfl, by decide +kernel, rfl, by decide +kernel, by decide +kernel⟩
abbrev own_read_wish_c0 : List Str := ["figure"]
abbrev cap_read_wish_c0 : List (Str × Nat) := []
abbrev lc_read_wish_c0 : Scope := { kind := PySem.ScopeKind.function, names := [(PySem.Str.ofString ".0", PySem.NameKind.local), (PySem.Str.ofString "figure", PySem.NameKind.local), (PySem.Str.ofString "FIGURES", PySem.NameKind.globalImplicit)], isGenerator := false, isCoroutine := false, more := [] }
theorem nd_read_wish_c0 : (own_read_wish_c0 ++ cap_read_wish_c0.map (·.1)).Nodup := by decide +kernel
theorem bs_read_wish_c0 : BlkSc ["many", "word", "rising"] (defScope s_read_wish) own_read_wish_c0 cap_read_wish_c0 lc_read_wish_c0 := ⟨rfl, by decide +kernel, by decide +kernel, by decide +kernel, by decide +kernel⟩
abbrev own_read_wish_c1 : List Str := ["figure"]
abbrev cap_read_wish_c1 : List (Str × Nat) := [("word", 1)]
abbrev lc_read_wish_c1 : Scope := { kind := PySem.ScopeKind.function, names := [(PySem.Str.ofString ".0", PySem.NameKind.local), (PySem.Str.ofString "figure", PySem.NameKind.local), (PySem.Str.ofString "word", PySem.NameKind.free)], isGenerator := false, isCoroutine := false, more := [] }
theorem nd_read_wish_c1 : (own_read_wish_c1 ++ cap_read_wish_c1.map (·.1)).Nodup := by decide +kernel
theorem bs_read_wish_c1 : BlkSc ["many", "word", "rising"] (defScope s_read_wish) own_read_wish_c1 cap_read_wish_c1 lc_read_wish_c1 := ⟨rfl, by decide +kernel, by decide +kernel, by decide +kernel, by decide +kernel⟩
abbrev s_read : Stmt := top 12
theorem sc_read : FnScope ["text", "words", "many"] ["text"] (defScope s_read) := ⟨rfl, rfl, rfl, by decide +kernel, rfl, by decide +kernel, by decide +kernel⟩
abbrev own_read_c0 : List Str := ["word"]
abbrev cap_read_c0 : List (Str × Nat) := [("many", 2)]
abbrev lc_read_c0 : Scope := { kind := PySem.ScopeKind.function, names := [(PySem.Str.ofString ".0", PySem.NameKind.local), (PySem.Str.ofString "word", PySem.NameKind.local), (PySem.Str.ofString "read_wish", PySem.NameKind.globalImplicit), (PySem.Str.ofString "many", PySem.NameKind.free)], isGenerator := false, isCoroutine := false, more := [] }
theorem nd_read_c0 : (own_read_c0 ++ cap_read_c0.map (·.1)).Nodup := by decide +kernel
theorem bs_read_c0 : BlkSc ["text", "words", "many"] (defScope s_read) own_read_c0 cap_read_c0 lc_read_c0 := ⟨rfl, by decide +kernel, by decide +kernel, by decide +kernel, by decide +kernel⟩
abbrev s__law_whole : Stmt := top 18
theorem sc__law_whole : FnScope ["found"] ["found"] (defScope s__law_whole) := ⟨rfl, rfl, rfl, by decide +kernel, rfl, by decide +kernel, by decide +kernel⟩
abbrev s__law_right : Stmt := top 23
theorem sc__law_right : FnScope ["found", "many", "due", "wish"] ["found", "many", "due"] (defScope s__law_right) := ⟨rfl, rfl, rfl, by decide +kernel, rfl, by decide +kernel, by decide +kernel⟩
abbrev own__law_right_c0 : List Str := ["book"]
abbrev cap__law_right_c0 : List (Str × Nat) := []
abbrev lc__law_right_c0 : Scope := { kind := PySem.ScopeKind.function, names := [(PySem.Str.ofString ".0", PySem.NameKind.local), (PySem.Str.ofString "book", PySem.NameKind.local), (PySem.Str.ofString "_law_whole", PySem.NameKind.globalImplicit)], isGenerator := false, isCoroutine := false, more := [] }
theorem nd__law_right_c0 : (own__law_right_c0 ++ cap__law_right_c0.map (·.1)).Nodup := by decide +kernel
theorem bs__law_right_c0 : BlkSc ["found", "many", "due", "wish"] (defScope s__law_right) own__law_right_c0 cap__law_right_c0 lc__law_right_c0 := ⟨rfl, by decide +kernel, by decide +kernel, by decide +kernel, by decide +kernel⟩
abbrev s_law : Stmt := top 24
theorem sc_law : FnScope ["script", "drawn", "many", "due", "text", "wish", "some", "handed", "found", "told", "place"] ["script"] (defScope s_law) := ⟨rfl, rfl, rfl, by decide +kernel, rfl, by decide +kernel, by decide +kernel⟩
abbrev own_law_c0 : List Str := ["place"]
abbrev cap_law_c0 : List (Str × Nat) := [("due", 3)]
abbrev lc_law_c0 : Scope := { kind := PySem.ScopeKind.function, names := [(PySem.Str.ofString ".0", PySem.NameKind.local), (PySem.Str.ofString "place", PySem.NameKind.local), (PySem.Str.ofString "due", PySem.NameKind.free)], isGenerator := false, isCoroutine := false, more := [] }
theorem nd_law_c0 : (own_law_c0 ++ cap_law_c0.map (·.1)).Nodup := by decide +kernel
theorem bs_law_c0 : BlkSc ["script", "drawn", "many", "due", "text", "wish", "some", "handed", "found", "told", "place"] (defScope s_law) own_law_c0 cap_law_c0 lc_law_c0 := ⟨rfl, by decide +kernel, by decide +kernel, by decide +kernel, by decide +kernel⟩
abbrev own_law_c1 : List Str := ["wish"]
abbrev cap_law_c1 : List (Str × Nat) := []
abbrev lc_law_c1 : Scope := { kind := PySem.ScopeKind.function, names := [(PySem.Str.ofString ".0", PySem.NameKind.local), (PySem.Str.ofString "wish", PySem.NameKind.local), (PySem.Str.ofString "list", PySem.NameKind.globalImplicit)], isGenerator := false, isCoroutine := false, more := [] }
theorem nd_law_c1 : (own_law_c1 ++ cap_law_c1.map (·.1)).Nodup := by decide +kernel
theorem bs_law_c1 : BlkSc ["script", "drawn", "many", "due", "text", "wish", "some", "handed", "found", "told", "place"] (defScope s_law) own_law_c1 cap_law_c1 lc_law_c1 := ⟨rfl, by decide +kernel, by decide +kernel, by decide +kernel, by decide +kernel⟩
abbrev own_law_c2 : List Str := ["book"]
abbrev cap_law_c2 : List (Str × Nat) := []
abbrev lc_law_c2 : Scope := { kind := PySem.ScopeKind.function, names := [(PySem.Str.ofString ".0", PySem.NameKind.local), (PySem.Str.ofString "book", PySem.NameKind.local)], isGenerator := false, isCoroutine := false, more := [] }
theorem nd_law_c2 : (own_law_c2 ++ cap_law_c2.map (·.1)).Nodup := by decide +kernel
theorem bs_law_c2 : BlkSc ["script", "drawn", "many", "due", "text", "wish", "some", "handed", "found", "told", "place"] (defScope s_law) own_law_c2 cap_law_c2 lc_law_c2 := ⟨rfl, by decide +kernel, by decide +kernel, by decide +kernel, by decide +kernel⟩
abbrev own_law_c3 : List Str := ["wish"]
abbrev cap_law_c3 : List (Str × Nat) := []
abbrev lc_law_c3 : Scope := { kind := PySem.ScopeKind.function, names := [(PySem.Str.ofString ".0", PySem.NameKind.local), (PySem.Str.ofString "wish", PySem.NameKind.local), (PySem.Str.ofString "sorted", PySem.NameKind.globalImplicit), (PySem.Str.ofString "set", PySem.NameKind.globalImplicit)], isGenerator := false, isCoroutine := false, more := [] }
theorem nd_law_c3 : (own_law_c3 ++ cap_law_c3.map (·.1)).Nodup := by decide +kernel
theorem bs_law_c3 : BlkSc ["script", "drawn", "many", "due", "text", "wish", "some", "handed", "found", "told", "place"] (defScope s_law) own_law_c3 cap_law_c3 lc_law_c3 := ⟨rfl, by decide +kernel, by decide +kernel, by decide +kernel, by decide +kernel⟩
structure Txt (K : PySem.W.Frag) (mg : Str → Option Value) : Prop where
  b_len : mg "len" = none
  b_range : mg "range" = none
  b_list : mg "list" = none
  b_reversed : mg "reversed" = none
  b_sorted : mg "sorted" = none
  b_set : mg "set" = none
  b_str : mg "str" = none
  b_isinstance : mg "isinstance" = none
  b_bool : mg "bool" = none
  b_int : mg "int" = none
  b_tuple : mg "tuple" = none
  c_NO_BOOKS : ∃ u, mg "NO_BOOKS" = some u ∧ RelV (.str "-") u
  c_FIGURES : ∃ u, mg "FIGURES" = some u ∧ RelV (.str "12345678") u
  c_MOST_WISHES : ∃ u, mg "MOST_WISHES" = some u ∧ RelV (.int 12) u
  d__law_cell_at : TDef K mg "_law_cell_at" s__law_cell_at ["script", "k"]
  d__law_set : TDef K mg "_law_set" s__law_set ["cell", "many"]
  d__law_order : TDef K mg "_law_order" s__law_order ["script", "at", "many"]
  d__law_wish : TDef K mg "_law_wish" s__law_wish ["cell", "many", "order"]
  d__law_wishes : TDef K mg "_law_wishes" s__law_wishes ["script", "at", "most", "few"]
  d_check_books : TDef K mg "check_books" s_check_books ["many", "books"]
  d_check_wishes : TDef K mg "check_wishes" s_check_wishes ["many", "wishes"]
  d_shown_wish : TDef K mg "shown_wish" s_shown_wish ["wish"]
  d_shown : TDef K mg "shown" s_shown ["many", "wishes"]
  d_read_many : TDef K mg "read_many" s_read_many ["word"]
  d_read_wish : TDef K mg "read_wish" s_read_wish ["many", "word"]
  d_read : TDef K mg "read" s_read ["text"]
  d__law_whole : TDef K mg "_law_whole" s__law_whole ["found"]
  d__law_right : TDef K mg "_law_right" s__law_right ["found", "many", "due"]
end K13
namespace K13
open PySem L2
set_option maxRecDepth 100000
set_option maxHeartbeats 4000000
section
variable {P : Program} {w : World} {K : PySem.W.Frag} {mg : Str → Option Value} {base : Heap}
def spCell (K : PySem.W.Frag) : Sp := fun vs H Q _ => ∃ (a : Addr) (ns : List Int) (k : Int), vs = [.ref a, .int k] ∧ SqL K H a (ns.map V.int) ∧ 0 ≤ k ∧ ∀ z, Q (.int z) H
theorem ok__law_cell_at (T : Txt K mg) : Cal P w K mg base 1 "_law_cell_at" ["script", "k"] (spCell K) := by
  refine T.d__law_cell_at.ok sc__law_cell_at (fun vs H Q E h => ?_) (fun f cdv A outer s H vs Q E hr h => ?_)
  · obtain ⟨a, ns, k, rfl, _⟩ := h
    rfl
  · obtain ⟨a, ns, k, rfl, hS, h0, q⟩ := h
    refine ⟨_, (pss_cons (ps_if (pt_cmpR op_lt (pv 1) (pe_callB (k_len (K := K) rfl) rfl T.b_len PySem.boot_len (pa_cons (pv 0) pa_nil)) (nomark _)) (pss_one (ps_ret (pe_ix (k_ixL (K := K) rfl) (pv 0) (pv 1) (fun _ _ => rfl)))) pss_nil) (pss_one (ps_ret pe_int))), ?_⟩
    refine ⟨_, rfl, _, rfl, a, _, rfl, .inl hS, _, _, rfl, rfl, _, rfl, ?_⟩
    refine ite2 (fun hk => ?_) (fun hk => ?_)
    · have hk : k < (((ns.map V.int).length : Nat) : Int) := of_decide_eq_true hk
      rw [List.length_map] at hk
      have e : (ns.map V.int)[k.toNat]? = some (V.int (ns.getD k.toNat 0)) := by
        have : k.toNat < ns.length := by omega
        simp [this]
      refine ⟨_, rfl, _, rfl, a, _, k, V.int (ns.getD k.toNat 0), rfl, rfl, hS, ?_, q _⟩
      have e2 := atI_nat e
      rwa [Int.toNat_of_nonneg h0] at e2
    · exact q 0

def spSet : Sp := fun vs H Q _ => ∃ (cell : Int) (many : Nat), vs = [.int cell, .int many] ∧ many ≤ 8 ∧
  ∀ l (ns : List Int) H', H l = none → Same H H' → H' l = some (.lst (ns.map V.int)) → Sh.Good many ns → Q (.ref l) H'
theorem ok__law_set (T : Txt K mg) : Cal P w K mg base 1 "_law_set" ["cell", "many"] spSet := by
  refine T.d__law_set.ok sc__law_set (fun vs H Q E h => ?_) (fun f cdv A outer s H vs Q E hr h => ?_)
  · obtain ⟨c, m, rfl, _⟩ := h
    rfl
  · obtain ⟨c, m, rfl, hm, q⟩ := h
    refine ⟨_, (pss_cons (ps_set (i := 2) sc__law_set.nd rfl (Or.inl rfl) (pe_lst pa_nil)) (pss_cons (ps_for PassesOwn.never rfl (pi_range1 rfl T.b_range (pa_cons (pv 1) pa_nil)) (pg_name (i := 3) sc__law_set.nd rfl (Or.inl rfl)) (pss_cons (ps_if (pt_cmpR op_eq (pe_op op_mod (pv 0) pe_int) pe_int (nomark _)) (pss_one (ps_expr (pe_bm PySem.F.plainAttrs_list PySem.F.slot_list_append PySem.F.type_list_append mt_append (pv 2) (pa_cons (pv 3) pa_nil)))) pss_nil) (pss_one (ps_set (i := 0) sc__law_set.nd rfl (Or.inl rfl) (pe_op op_fdiv (pv 0) pe_int))))) (pss_one (ps_ret (pv 2))))), ?_⟩
    refine ⟨Nat.zero_le _, fun l hl => ?_⟩
    refine ⟨_, rfl, (m : Int), rfl, by omega, by omega, for_range (n := ((m : Int)).toNat) (fun i σ H' => ∃ (c' : Int) (bk : Option V) (ns : List Int), σ = [some (.int c'), some (.int m), some (.ref l), bk] ∧ Same H H' ∧ H' l = some (.lst (ns.map V.int)) ∧ (∀ b ∈ ns, 0 ≤ b ∧ b < (i : Int)) ∧ ns.length ≤ i)
      ⟨c, none, [], rfl, Same.new hl, upd_same, fun b hb => absurd hb (List.not_mem_nil), Nat.le_refl _⟩ ?_ ?_⟩
    · rintro i σ H' hi ⟨c', bk, ns, rfl, s1, hL, hb, hn⟩
      refine ⟨_, rfl, _, _, rfl, rfl, (by show (0 : Int) < 2; decide), rfl, _, rfl, ?_⟩
      refine ite2 (fun _ => ?_) (fun _ => ?_)
      · refine ⟨_, rfl, .inl ⟨rfl, _, SqL.of hL⟩, _, rfl, l, _, _, rfl, rfl, hL, ?_, ?_⟩
        · rw [List.length_map]
          exact small1000 (by omega)
        · refine ⟨_, rfl, _, _, rfl, rfl, ⟨by decide, by decide⟩, _, _, ns ++ [0 + (i : Int)], rfl, s1.put hl, ?_, fun b hb' => ?_, ?_⟩
          · rw [upd_same, List.map_append]
            rfl
          · rcases List.mem_append.mp hb' with z | z
            · have := hb b z
              omega
            · have z : b = 0 + (i : Int) := List.mem_singleton.mp z
              omega
          · rw [List.length_append]
            exact Nat.add_le_add_right hn 1
      · refine ⟨_, rfl, _, _, rfl, rfl, ⟨by decide, by decide⟩, _, _, ns, rfl, s1, hL, fun b z => ?_, by omega⟩
        have := hb b z
        omega
    · rintro σ H' ⟨c', bk, ns, rfl, s1, hL, hb, hn⟩
      refine ⟨_, rfl, q l ns H' hl s1 hL ⟨fun b z => ?_, by omega⟩⟩
      have := hb b z
      omega

def spOrder (K : PySem.W.Frag) : Sp := fun vs H Q _ => ∃ (a : Addr) (ns : List Int) (k : Int) (many : Nat), vs = [.ref a, .int k, .int many] ∧ SqL K H a (ns.map V.int) ∧ 0 ≤ k ∧ many ≤ 8 ∧
  ∀ l (os : List Int) H', H l = none → Same H H' → H' l = some (.lst (os.map V.int)) → os.Perm (Sh.rangeI many) → Q (.ref l) H'
theorem ok__law_order (T : Txt K mg) : Cal P w K mg base 2 "_law_order" ["script", "at", "many"] (spOrder K) := by
  have C__law_cell_at := ok__law_cell_at (P := P) (w := w) (base := base) T
  refine T.d__law_order.ok sc__law_order (fun vs H Q E h => ?_) (fun f cdv A outer s H vs Q E hr h => ?_)
  · obtain ⟨a, ns, k, m, rfl, _⟩ := h
    rfl
  · obtain ⟨a, ns, k, m, rfl, hS, h0, hm, q⟩ := h
    refine ⟨_, (pss_cons (ps_set (i := 3) sc__law_order.nd rfl (Or.inl rfl) (pe_listRange rfl T.b_list rfl T.b_range rfl (pv 2))) (pss_cons (ps_set (i := 4) sc__law_order.nd rfl (Or.inl rfl) (pe_lst pa_nil)) (pss_cons (ps_for PassesOwn.never rfl (pi_range1 rfl T.b_range (pa_cons (pv 2) pa_nil)) (pg_name (i := 5) sc__law_order.nd rfl (Or.inl rfl)) (pss_one (ps_expr (pe_bm PySem.F.plainAttrs_list PySem.F.slot_list_append PySem.F.type_list_append mt_append (pv 4) (pa_cons (pe_bm PySem.F.plainAttrs_list PySem.F.slot_list_pop PySem.F.type_list_pop mt_popAt (pv 3) (pa_cons (pe_op op_mod (pe_cal C__law_cell_at (hr.mono (by first | decide | omega)) rfl (pa_cons (pv 0) (pa_cons (pe_op op_add (pv 1) (pv 5)) pa_nil))) (pe_callB (k_len (K := K) rfl) rfl T.b_len PySem.boot_len (pa_cons (pv 3) pa_nil))) pa_nil)) pa_nil))))) (pss_one (ps_ret (pv 4)))))), ?_⟩
    refine ⟨_, rfl, m, rfl, by omega, fun ll hll => ?_⟩
    refine ⟨Nat.zero_le _, fun lo hlo => ?_⟩
    have nlo : lo ≠ ll := fun e => by rw [e, upd_same] at hlo; cases hlo
    have hlo' : H lo = none := by rw [upd_ne nlo] at hlo; exact hlo
    refine ⟨_, rfl, (m : Int), rfl, by omega, by omega, for_range (n := ((m : Int)).toNat) (fun i σ H' => ∃ (v : Option V) (os rs : List Int), σ = [some (.ref a), some (.int k), some (.int m), some (.ref ll), some (.ref lo), v] ∧ Same H H' ∧ H' ll = some (.lst (rs.map V.int)) ∧ H' lo = some (.lst (os.map V.int)) ∧
        (os ++ rs).Perm (Sh.rangeI m) ∧ os.length = i ∧ rs.length = m - i)
      ⟨none, [], Sh.rangeI m, rfl, (Same.new hll).put hlo', ?_, upd_same, List.Perm.refl _, rfl, Sh.rangeI_len m⟩ ?_ ?_⟩
    · rw [upd_ne (Ne.symm nlo), upd_same]
      unfold Sh.rangeI
      rw [List.map_map]
      rfl
    · rintro i σ H' hi ⟨v, os, rs, rfl, s1, hL, hO, hp, h1, h2⟩
      have hi : i < m := by simpa using hi
      have hrl : 0 < rs.length := by omega
      refine ⟨_, rfl, .inl ⟨rfl, _, SqL.of hO⟩, _, rfl, .inl ⟨rfl, _, SqL.of hL⟩, ?_⟩
      refine ⟨_, rfl, _, rfl, _, rfl, _, _, rfl, rfl, a, ns, _, rfl, s1.seq hS, by omega, fun z => ?_⟩
      refine ⟨_, rfl, ll, _, rfl, .inl (SqL.of hL), _, _, rfl, rfl, ?_, ?_⟩
      · show (0 : Int) < (((rs.map V.int).length : Nat) : Int)
        rw [List.length_map]
        omega
      · have hz0 : 0 ≤ z % (((rs.map V.int).length : Nat) : Int) := Int.emod_nonneg _ (by rw [List.length_map]; omega)
        have hz1 : z % (((rs.map V.int).length : Nat) : Int) < (((rs.map V.int).length : Nat) : Int) := Int.emod_lt_of_pos _ (by rw [List.length_map]; omega)
        have hml : (rs.map V.int).length = rs.length := List.length_map ..
        obtain ⟨j, hj, ej⟩ : ∃ j : Nat, j < rs.length ∧ z % (((rs.map V.int).length : Nat) : Int) = (j : Int) := ⟨(z % (((rs.map V.int).length : Nat) : Int)).toNat, by omega, by omega⟩
        refine ⟨ll, rs.map V.int, z % (((rs.map V.int).length : Nat) : Int), j, V.int rs[j], rfl, rfl, hL, by omega, by omega, ?_, by simp [hj], ?_⟩
        · rw [ej, List.length_map]
          exact (ixN_seq (n := rs.length) (i := (j : Int)) (j := j) (by unfold ixN; rw [if_pos (by omega), if_pos (by omega)]; simp)).1
        · refine ⟨lo, _, _, rfl, rfl, by rw [upd_ne nlo]; exact hO, by rw [List.length_map]; exact small1000 (by omega), ?_⟩
          refine ⟨_, os ++ [rs[j]], rs.eraseIdx j, rfl, (s1.put hll).put hlo', ?_, ?_, ?_, ?_, ?_⟩
          · rw [upd_ne (Ne.symm nlo), upd_same, Sh.map_erase]
          · rw [upd_same, List.map_append]
            rfl
          · refine List.Perm.trans ?_ hp
            rw [List.append_assoc]
            exact List.Perm.append_left os (Sh.erase_perm hj)
          · rw [List.length_append, h1]
            rfl
          · rw [List.length_eraseIdx_of_lt hj]
            omega
    · rintro σ H' ⟨v, os, rs, rfl, s1, hL, hO, hp, h1, h2⟩
      have e : rs = [] := List.length_eq_zero_iff.mp (by rw [h2]; simp)
      subst e
      rw [List.append_nil] at hp
      exact ⟨_, rfl, q lo os H' hlo' s1 hO hp⟩

def spWish (K : PySem.W.Frag) : Sp := fun vs H Q _ => ∃ (cell : Int) (many : Nat) (o : Addr) (os : List Int), vs = [.int cell, .int many, .ref o] ∧ 1 ≤ many ∧ many ≤ 8 ∧ SqL K H o (os.map V.int) ∧ os.Perm (Sh.rangeI many) ∧
  ∀ l (ns : List Int) H', H l = none → Same H H' → H' l = some (.lst (ns.map V.int)) → Sh.Good many ns → Q (.ref l) H'
theorem ok__law_wish (T : Txt K mg) : Cal P w K mg base 1 "_law_wish" ["cell", "many", "order"] (spWish K) := by
  refine T.d__law_wish.ok sc__law_wish (fun vs H Q E h => ?_) (fun f cdv A outer s H vs Q E hr h => ?_)
  · obtain ⟨c, m, o, os, rfl, _⟩ := h
    rfl
  · obtain ⟨c, m, o, os, rfl, h1, h8, hO, hp, q⟩ := h
    refine ⟨_, (pss_cons (ps_set (i := 3) sc__law_wish.nd rfl (Or.inl rfl) (pe_op op_mod (pv 0) (pv 1))) (pss_cons (ps_set (i := 4) sc__law_wish.nd rfl (Or.inl rfl) (pe_op op_add pe_int (pe_op op_mod (pe_op op_fdiv (pv 0) (pv 1)) (pe_op op_sub (pv 1) (pv 3))))) (pss_cons (ps_set (i := 5) sc__law_wish.nd rfl (Or.inl rfl) (pe_slice (k_slL (K := K) rfl) (pv 2) (po_some (pv 3)) (po_some (pe_op op_add (pv 3) (pv 4))))) (pss_cons (ps_if (pt_cmpR op_eq (pe_op op_mod (pe_op op_fdiv (pv 0) pe_int) pe_int) pe_int (nomark _)) (pss_one (ps_set (i := 5) sc__law_wish.nd rfl (Or.inl rfl) (pe_op op_cat (pe_listRev rfl T.b_list rfl T.b_reversed rfl (pv 5)) (pe_slice (k_slL (K := K) rfl) (pv 5) po_none (po_some pe_int))))) pss_nil) (pss_one (ps_ret (pv 5))))))), ?_⟩
    have m0 : (0 : Int) < m := by omega
    have l0 : 0 ≤ c % (m : Int) := Int.emod_nonneg _ (by omega)
    have l1 : c % (m : Int) < m := Int.emod_lt_of_pos _ m0
    refine ⟨_, rfl, _, rfl, _, _, rfl, rfl, m0, ?_⟩
    refine ⟨_, rfl, _, rfl, _, _, rfl, rfl, ⟨m0, by omega⟩, _, rfl, _, rfl, _, _, rfl, rfl, _, _, rfl, rfl, (by show (0 : Int) < (m : Int) - c % (m : Int); omega), _, _, rfl, rfl, ?_⟩
    refine ⟨_, rfl, _, rfl, _, rfl, _, rfl, _, rfl, _, _, rfl, rfl, _, rfl, o, _, rfl, hO, fun p hpn => ?_⟩
    obtain ⟨cs, e1, e2, e3⟩ := cut_ints os (some (c % (m : Int))) (some (c % (m : Int) + (1 + c / (m : Int) % ((m : Int) - c % (m : Int)))))
    rw [e1]
    have len : os.length = m := by rw [hp.length_eq]; exact Sh.rangeI_len m
    have good : ∀ b ∈ os, 0 ≤ b ∧ b < (m : Int) := fun b hb => Sh.mem_rangeI.mp (hp.mem_iff.mp hb)
    have sP : Same H (upd H p (.lst (cs.map V.int))) := Same.new hpn
    refine ⟨_, rfl, _, _, rfl, rfl, ⟨by decide, by decide⟩, _, _, rfl, rfl, (by show (0 : Int) < 4; decide), rfl, _, rfl, ?_⟩
    refine ite2 (fun _ => ?_) (fun _ => ?_)
    · refine ⟨_, rfl, p, _, rfl, SqL.of upd_same, fun l1 hl1 => ?_⟩
      have n1 : p ≠ l1 := fun e => by rw [← e, upd_same] at hl1; cases hl1
      refine ⟨_, rfl, _, rfl, p, _, rfl, SqL.of (by rw [upd_ne n1]; exact upd_same), fun l2 hl2 => ?_⟩
      have n2 : l1 ≠ l2 := fun e => by rw [← e, upd_same] at hl2; cases hl2
      obtain ⟨ds, d1, d2, d3⟩ := cut_ints1 cs
      refine ⟨l1, l2, _, _, rfl, rfl, by rw [upd_ne n2]; exact upd_same, upd_same, ?_, fun l3 hl3 => ?_⟩
      · rw [d1, List.length_reverse, List.length_map, List.length_map]
        exact Nat.le_of_lt (small1000 (by omega))
      · have s3 : Same H (upd (upd (upd (upd H p (.lst (cs.map V.int))) l1 (.lst (cs.map V.int).reverse)) l2 (.lst (cutV (cs.map V.int) none (some 1)))) l3 (.lst ((cs.map V.int).reverse ++ cutV (cs.map V.int) none (some 1)))) :=
          ((sP.trans (Same.new hl1)).trans (Same.new hl2)).trans (Same.new hl3)
        refine ⟨_, rfl, q l3 (cs.reverse ++ ds) _ (((sP.trans (Same.new hl1)).trans (Same.new hl2)).free hl3) s3 ?_ ⟨fun b hb => ?_, ?_⟩⟩
        · rw [upd_same, d1, List.map_append, List.map_reverse]
        · rcases List.mem_append.mp hb with z | z
          · exact good b (e2 b (List.mem_reverse.mp z))
          · exact good b (e2 b (d2 b z))
        · rw [List.length_append, List.length_reverse]
          omega
    · refine ⟨_, rfl, q p cs _ hpn sP upd_same ⟨fun b hb => good b (e2 b hb), ?_⟩⟩
      omega

def spWishes (K : PySem.W.Frag) : Sp := fun vs H Q _ => ∃ (a : Addr) (ns : List Int) (k : Int) (most few : Nat), vs = [.ref a, .int k, .int most, .int few] ∧ SqL K H a (ns.map V.int) ∧ 0 ≤ k ∧ 1 ≤ most ∧ most ≤ 8 ∧ few ≤ 12 ∧
  ∀ t lw (many : Nat) (ws : List (List Int)) H', H t = none → H lw = none → Same H H' → H' t = some (.tup [.int many, .ref lw]) → WL H' lw ws → 1 ≤ many → many ≤ most → ws.length ≤ few → (∀ w ∈ ws, Sh.Good many w) → Q (.ref t) H'
theorem ok__law_wishes (T : Txt K mg) : Cal P w K mg base 3 "_law_wishes" ["script", "at", "most", "few"] (spWishes K) := by
  have C__law_cell_at := ok__law_cell_at (P := P) (w := w) (base := base) T
  have C__law_order := ok__law_order (P := P) (w := w) (base := base) T
  have C__law_wish := ok__law_wish (P := P) (w := w) (base := base) T
  have C__law_set := ok__law_set (P := P) (w := w) (base := base) T
  refine T.d__law_wishes.ok sc__law_wishes (fun vs H Q E h => ?_) (fun f cdv A outer s H vs Q E hr h => ?_)
  · obtain ⟨a, ns, k, m, n, rfl, _⟩ := h
    rfl
  · obtain ⟨a, ns, k, most, few, rfl, hS, h0, hm1, hm8, hf, q⟩ := h
    refine ⟨_, (pss_cons (ps_set (i := 4) sc__law_wishes.nd rfl (Or.inl rfl) (pe_cal C__law_cell_at (hr.mono (by first | decide | omega)) rfl (pa_cons (pv 0) (pa_cons (pv 1) pa_nil)))) (pss_cons (ps_set (i := 5) sc__law_wishes.nd rfl (Or.inl rfl) (pe_op op_add pe_int (pe_op op_mod (pe_op op_fdiv (pv 4) pe_int) (pv 2)))) (pss_cons (ps_set (i := 6) sc__law_wishes.nd rfl (Or.inl rfl) (pe_op op_mod (pe_op op_fdiv (pv 4) pe_int) (pe_op op_add (pv 3) pe_int))) (pss_cons (ps_set (i := 7) sc__law_wishes.nd rfl (Or.inl rfl) (pe_cal C__law_order (hr.mono (by first | decide | omega)) rfl (pa_cons (pv 0) (pa_cons (pe_op op_add (pv 1) pe_int) (pa_cons (pv 5) pa_nil))))) (pss_cons (ps_set (i := 8) sc__law_wishes.nd rfl (Or.inl rfl) (pe_lst pa_nil)) (pss_cons (ps_for PassesOwn.never rfl (pi_range1 rfl T.b_range (pa_cons (pv 6) pa_nil)) (pg_name (i := 9) sc__law_wishes.nd rfl (Or.inl rfl)) (pss_cons (ps_set (i := 10) sc__law_wishes.nd rfl (Or.inl rfl) (pe_cal C__law_cell_at (hr.mono (by first | decide | omega)) rfl (pa_cons (pv 0) (pa_cons (pe_op op_add (pe_op op_add (pv 1) pe_int) (pv 9)) pa_nil)))) (pss_one (ps_if (pt_cmpR op_eq (pe_op op_mod (pv 4) pe_int) pe_int (nomark _)) (pss_one (ps_expr (pe_bm PySem.F.plainAttrs_list PySem.F.slot_list_append PySem.F.type_list_append mt_append (pv 8) (pa_cons (pe_cal C__law_set (hr.mono (by first | decide | omega)) rfl (pa_cons (pv 10) (pa_cons (pv 5) pa_nil))) pa_nil)))) (pss_one (ps_expr (pe_bm PySem.F.plainAttrs_list PySem.F.slot_list_append PySem.F.type_list_append mt_append (pv 8) (pa_cons (pe_cal C__law_wish (hr.mono (by first | decide | omega)) rfl (pa_cons (pv 10) (pa_cons (pv 5) (pa_cons (pv 7) pa_nil)))) pa_nil)))))))) (pss_cons (ps_if (PW.pt (pw_and (pt_cmpR op_gt (pe_op op_mod (pv 4) pe_int) pe_int (nomark _)) (pw_and1 (pt_cmpR op_gt (pv 6) pe_int (nomark _))))) (pss_cons (ps_set (i := 11) sc__law_wishes.nd rfl (Or.inl rfl) (pe_cal C__law_cell_at (hr.mono (by first | decide | omega)) rfl (pa_cons (pv 0) (pa_cons (pe_op op_add (pv 1) pe_int) pa_nil)))) (pss_one (ps_asg (pe_cal C__law_set (hr.mono (by first | decide | omega)) rfl (pa_cons (pe_op op_fdiv (pv 11) (pv 6)) (pa_cons (pv 5) pa_nil))) (pg_sub (pv 8) (pe_op op_mod (pv 11) (pv 6)) set_list)))) pss_nil) (pss_one (ps_ret (pe_tup (pa_cons (pv 5) (pa_cons (pv 8) pa_nil)))))))))))), ?_⟩
    refine ⟨_, rfl, _, rfl, a, ns, k, rfl, hS, h0, fun c => ?_⟩
    have m1 : (0 : Int) < most := by omega
    obtain ⟨many, hmany, em⟩ : ∃ many : Nat, many ≤ most ∧ 1 + c / 4 % (most : Int) = (many : Int) := by
      have q1 : 0 ≤ c / 4 % (most : Int) := Int.emod_nonneg _ (by omega)
      have q2 : c / 4 % (most : Int) < most := Int.emod_lt_of_pos _ m1
      exact ⟨(1 + c / 4 % (most : Int)).toNat, by omega, by omega⟩
    have hpos : 1 ≤ many := by
      have q1 : 0 ≤ c / 4 % (most : Int) := Int.emod_nonneg _ (by omega)
      omega
    obtain ⟨cnt, hcnt, ec⟩ : ∃ cnt : Nat, cnt ≤ few ∧ c / 40 % ((few : Int) + 1) = (cnt : Int) := by
      have q1 : 0 ≤ c / 40 % ((few : Int) + 1) := Int.emod_nonneg _ (by omega)
      have q2 : c / 40 % ((few : Int) + 1) < (few : Int) + 1 := Int.emod_lt_of_pos _ (by omega)
      exact ⟨(c / 40 % ((few : Int) + 1)).toNat, by omega, by omega⟩
    refine ⟨_, rfl, _, _, rfl, rfl, ⟨by decide, by decide⟩, _, rfl, _, _, rfl, rfl, m1, _, _, rfl, rfl, ?_⟩
    dsimp only
    rw [em]
    refine ⟨_, rfl, _, _, rfl, rfl, ⟨by decide, by decide⟩, _, rfl, _, _, rfl, rfl, _, _, rfl, rfl, (by show (0 : Int) < (few : Int) + 1; omega), ?_⟩
    dsimp only
    rw [ec]
    refine ⟨_, rfl, _, rfl, _, _, rfl, rfl, _, rfl, a, ns, _, many, rfl, hS, by omega, by omega, fun lo os H1 hlo s1 hO hp => ?_⟩
    refine ⟨Nat.zero_le _, fun lw hlw => ?_⟩
    have hlwH : H lw = none := s1.free hlw
    refine ⟨_, rfl, (cnt : Int), rfl, by omega, by omega, for_range (n := ((cnt : Int)).toNat) (fun i σ H' => ∃ (v1 v2 : Option V) (ws : List (List Int)), σ = [some (.ref a), some (.int k), some (.int most), some (.int few), some (.int c), some (.int many), some (.int cnt), some (.ref lo), some (.ref lw), v1, v2, none] ∧
        Same H1 H' ∧ WLx H' lw ws ∧ ws.length = i ∧ ∀ w ∈ ws, Sh.Good many w)
      ⟨none, none, [], rfl, Same.new hlw, ⟨[], upd_same, .nil⟩, rfl, fun w hw => absurd hw (List.not_mem_nil)⟩ ?_ ?_⟩
    · rintro i σ H' hi ⟨v1, v2, ws, rfl, s2, ⟨as, hW, hP⟩, hl, hg⟩
      have hi : i < cnt := by simpa using hi
      have add : ∀ (l : Addr) (ns' : List Int) (H'' : Hp) (v1 v2 : Option V), H' l = none → Same H' H'' → H'' l = some (.lst (ns'.map V.int)) → Sh.Good many ns' →
          H'' lw = some (.lst (as.map V.ref)) ∧ (as.map V.ref).length < sizeLine ∧ ∃ (u1 u2 : Option V) (ws' : List (List Int)), [some (.ref a), some (.int k), some (.int most), some (.int few), some (.int c), some (.int many), some (.int cnt), some (.ref lo), some (.ref lw), v1, v2, none] = [some (.ref a), some (.int k), some (.int most), some (.int few), some (.int c), some (.int many), some (.int cnt), some (.ref lo), some (.ref lw), u1, u2, none] ∧
            Same H1 (upd H'' lw (.lst (as.map V.ref ++ [.ref l]))) ∧ WLx (upd H'' lw (.lst (as.map V.ref ++ [.ref l]))) lw ws' ∧ ws'.length = i + 1 ∧ ∀ w ∈ ws', Sh.Good many w := fun l ns' H'' v1 v2 fl s3 hl' g' => by
        have nl : l ≠ lw := fun e => by rw [e, hW] at fl; cases fl
        refine ⟨s3 _ _ hW, ?_, v1, v2, ws ++ [ns'], rfl, (s2.trans s3).put hlw, ⟨as ++ [l], ?_, ?_⟩, ?_, fun w hw => ?_⟩
        · rw [List.length_map, Paired.length hP, hl]
          exact small1000 (by omega)
        · rw [upd_same, List.map_append]
          rfl
        · refine Paired.snoc (Paired.mapP hP fun b w ⟨n1, e⟩ => ⟨n1, ?_⟩) ⟨nl, ?_⟩
          · rw [upd_ne n1]
            exact s3 _ _ e
          · rw [upd_ne nl]
            exact hl'
        · rw [List.length_append, hl]
          rfl
        · rcases List.mem_append.mp hw with z | z
          · exact hg w z
          · rw [List.mem_singleton.mp z]
            exact g'
      refine ⟨_, rfl, _, rfl, _, _, rfl, rfl, _, rfl, _, _, rfl, rfl, a, ns, _, rfl, (s1.trans s2).seq hS, by omega, fun one => ?_⟩
      refine ⟨_, rfl, _, _, rfl, rfl, (by show (0 : Int) < 4; decide), rfl, _, rfl, ?_⟩
      refine ite2 (fun _ => ?_) (fun _ => ?_)
      · refine ⟨_, rfl, .inl ⟨rfl, _, SqL.of hW⟩, _, rfl, _, rfl, one, many, rfl, by omega, fun l ns' H'' fl s3 hl' g' => ?_⟩
        obtain ⟨a1, a2, a3⟩ := add l ns' H'' _ _ fl s3 hl' g'
        exact ⟨lw, _, _, rfl, rfl, a1, a2, a3⟩
      · refine ⟨_, rfl, .inl ⟨rfl, _, SqL.of hW⟩, _, rfl, _, rfl, _, rfl, one, many, lo, os, rfl, hpos, by omega, SqL.of (s2 _ _ hO), hp, fun l ns' H'' fl s3 hl' g' => ?_⟩
        obtain ⟨a1, a2, a3⟩ := add l ns' H'' _ _ fl s3 hl' g'
        exact ⟨lw, _, _, rfl, rfl, a1, a2, a3⟩
    · rintro σ H' ⟨v1, v2, ws, rfl, s2, ⟨as, hW, hP⟩, hl, hg⟩
      have hl : ws.length = cnt := by simpa using hl
      refine ⟨_, rfl, _, _, rfl, rfl, (by show (0 : Int) < 4; decide), _, _, rfl, rfl, _, rfl, ?_⟩
      have fin : ∀ (H'' : Hp) (as' : List Addr) (ws' : List (List Int)) (σ' : St), σ'[5]? = some (some (.int many)) → σ'[8]? = some (some (.ref lw)) → Same H1 H'' → H'' lw = some (.lst (as'.map V.ref)) → Paired (fun b w => b ≠ lw ∧ H'' b = some (.lst (w.map V.int))) as' ws' → ws'.length = cnt → (∀ w ∈ ws', Sh.Good many w) →
          tRet (tTup (tCons (tVar 5) (tCons (tVar 8) tNil))) { nx := fun _ H' => Q .non H', rt := Q } σ' H'' := fun H'' as' ws' σ' e5 e8 s3 hW' hP' hl' hg' => by
        refine ⟨_, e5, _, e8, (by show 2 ≤ sizeLine; decide), fun t ht => ?_⟩
        have nt : lw ≠ t := fun e => by rw [← e, hW'] at ht; cases ht
        refine q t lw many ws' _ ((s1.trans s3).free ht) hlwH ((s1.trans s3).trans (Same.new ht)) upd_same ⟨as', by rw [upd_ne nt]; exact hW', Paired.mapP hP' fun b w ⟨_, e⟩ => ?_⟩ hpos hmany (by omega) hg'
        have nb : b ≠ t := fun e' => by rw [e', ht] at e; cases e
        rw [upd_ne nb]
        exact e
      refine ite2 (fun _ => ?_) (fun _ => ?_)
      · refine ⟨_, rfl, _, _, rfl, rfl, _, rfl, ?_⟩
        refine ite2 (fun hc => ?_) (fun _ => ?_)
        · have hc : (0 : Int) < (cnt : Int) := of_decide_eq_true hc
          refine ⟨_, rfl, _, rfl, _, _, rfl, rfl, a, ns, _, rfl, (s1.trans s2).seq hS, by omega, fun oth => ?_⟩
          refine ⟨_, rfl, _, rfl, _, _, rfl, rfl, ⟨hc, by omega⟩, _, rfl, _, many, rfl, by omega, fun l ns' H'' fl s3 hl' g' => ?_⟩
          have nl : l ≠ lw := fun e => by rw [e, hW] at fl; cases fl
          have z0 : 0 ≤ oth % (cnt : Int) := Int.emod_nonneg _ (by omega)
          have z1 : oth % (cnt : Int) < cnt := Int.emod_lt_of_pos _ hc
          have el : (as.map V.ref).length = cnt := by rw [List.length_map, Paired.length hP, hl]
          refine ⟨_, rfl, _, rfl, _, rfl, _, _, rfl, rfl, hc, lw, as.map V.ref, _, (oth % (cnt : Int)).toNat, rfl, rfl, s3 _ _ hW, ?_, ?_⟩
          · rw [el]
            unfold ixN
            rw [if_pos z0, if_pos z1]
          · refine fin _ (as.set (oth % (cnt : Int)).toNat l) (ws.set (oth % (cnt : Int)).toNat ns') _ rfl rfl ((s2.trans s3).put hlw) ?_ ?_ ?_ ?_
            · rw [upd_same, List.map_set]
            · refine paired_set (F := fun b w => b ≠ lw ∧ (upd H'' lw (HO.lst ((as.map V.ref).set (oth % (cnt : Int)).toNat (V.ref l)))) b = some (.lst (w.map V.int))) ⟨nl, ?_⟩ (Paired.mapP hP fun b w ⟨n1, e⟩ => ⟨n1, ?_⟩)
              · rw [upd_ne nl]
                exact hl'
              · rw [upd_ne n1]
                exact s3 _ _ e
            · rw [List.length_set]
              exact hl
            · intro w hw
              rcases List.mem_or_eq_of_mem_set hw with z | z
              · exact hg w z
              · rw [z]
                exact g'
        · exact fin H' as ws _ rfl rfl s2 hW hP hl hg
      · exact fin H' as ws _ rfl rfl s2 hW hP hl hg

end
end K13
namespace K13
open PySem L2
set_option maxRecDepth 100000
set_option maxHeartbeats 4000000
section
variable {P : Program} {w : World} {K : PySem.W.Frag} {mg : Str → Option Value} {base : Heap}
def spBooks (K : PySem.W.Frag) : Sp := fun vs H Q _ => ∃ (many : Nat) (b : Addr) (ns : List Int), vs = [.int many, .ref b] ∧ (SqL K H b (ns.map V.int) ∨ SqT K H b (ns.map V.int)) ∧ Sh.Good many ns ∧ Q .non H
theorem ok_check_books (T : Txt K mg) : Cal P w K mg base 1 "check_books" ["many", "books"] (spBooks K) := by
  refine T.d_check_books.ok sc_check_books (fun vs H Q E h => ?_) (fun f cdv A outer s H vs Q E hr h => ?_)
  · obtain ⟨m, b, ns, rfl, _⟩ := h
    rfl
  · obtain ⟨m, b, ns, rfl, hS, hg, q⟩ := h
    refine ⟨_, (pss_one (ps_for PassesOwn.never rfl (k_seq (K := K) rfl (pv 1)) (pg_name (i := 2) sc_check_books.nd rfl (Or.inl rfl)) (pss_one (ps_if (pt_not (pt_chain op_le op_lt pe_int (pv 2) (pv 0))) (pss_one ps_never) pss_nil)))), ?_⟩
    have turn : ∀ (i : Nat) (x : V) (σ : St) (H' : Hp) (N : St → Hp → Prop) (D : Ends), (ns.map V.int)[i]? = some x → (∃ v, σ = [some (.int m), some (.ref b), v] ∧ H' = H) → (∀ σ', (∃ v, σ' = [some (.int m), some (.ref b), v] ∧ H' = H) → N σ' H') →
        gName 2 x σ H' fun σ2 H2 => tIfS (tNot (tTest (tChain (rI0 fun i j => .bl (decide (i ≤ j))) (rI0 fun i j => .bl (decide (i < j))) (tC (.int 0)) (tVar 2) (tVar 0)))) tNever tNext { D with nx := N, ct := N, bk := D.nx } σ2 H2 := by
      rintro i x σ H' N D hi ⟨v, rfl, rfl⟩ hN
      rw [List.getElem?_map] at hi
      cases e : ns[i]? with
      | none => rw [e] at hi; cases hi
      | some z =>
        rw [e] at hi
        obtain rfl : V.int z = x := Option.some.inj hi
        have hz := hg.1 z (List.mem_of_getElem? e)
        refine ⟨_, rfl, _, _, rfl, rfl, _, rfl, ?_⟩
        rw [if_pos (decide_eq_true hz.1)]
        refine ⟨_, rfl, _, _, rfl, rfl, _, rfl, ?_⟩
        rw [decide_eq_true hz.2]
        exact hN _ ⟨_, rfl, rfl⟩
    rcases hS with hS | hS
    · refine ⟨_, rfl, .inl ⟨b, rfl, ⟨_, hS⟩, for_list (K := K) (a := b) (xs := ns.map V.int) (fun i σ H' => ∃ v, σ = [some (.int m), some (.ref b), v] ∧ H' = H) ⟨none, rfl, rfl⟩ (fun i σ H' _ ⟨_, _, e⟩ => by rw [e]; exact hS) (fun i x σ H' hi p => turn i x σ H' _ _ hi p fun σ' z => z) ?_⟩⟩
      rintro σ H' ⟨v, rfl, rfl⟩
      exact q
    · refine ⟨_, rfl, .inr ⟨b, rfl, ⟨_, hS⟩, for_tup (K := K) (a := b) (xs := ns.map V.int) (fun i σ H' => ∃ v, σ = [some (.int m), some (.ref b), v] ∧ H' = H) ⟨none, rfl, rfl⟩ (fun i σ H' _ ⟨_, _, e⟩ => by rw [e]; exact hS) (fun i x σ H' hi p => turn i x σ H' _ _ hi p fun σ' z => z) ?_⟩⟩
      rintro σ H' ⟨v, rfl, rfl⟩
      exact q

def spCWishes (K : PySem.W.Frag) : Sp := fun vs H Q _ => ∃ (many : Nat) (lw : Addr) (ws : List (List Int)), vs = [.int many, .ref lw] ∧ WL H lw ws ∧ (∀ w ∈ ws, Sh.Good many w) ∧ Q .non H
theorem ok_check_wishes (T : Txt K mg) : Cal P w K mg base 2 "check_wishes" ["many", "wishes"] (spCWishes K) := by
  have C_check_books := ok_check_books (P := P) (w := w) (base := base) T
  refine T.d_check_wishes.ok sc_check_wishes (fun vs H Q E h => ?_) (fun f cdv A outer s H vs Q E hr h => ?_)
  · obtain ⟨m, b, ns, rfl, _⟩ := h
    rfl
  · obtain ⟨m, lw, ws, rfl, ⟨as, hW, hP⟩, hg, q⟩ := h
    refine ⟨_, (pss_one (ps_for PassesOwn.never rfl (k_list (K := K) rfl (pv 1)) (pg_name (i := 2) sc_check_wishes.nd rfl (Or.inl rfl)) (pss_one (ps_expr (pe_cal C_check_books (hr.mono (by first | decide | omega)) rfl (pa_cons (pv 0) (pa_cons (pv 2) pa_nil))))))), ?_⟩
    refine ⟨_, rfl, lw, rfl, ⟨_, SqL.of hW⟩, for_list (K := K) (a := lw) (xs := as.map V.ref) (fun i σ H' => ∃ v, σ = [some (.int m), some (.ref lw), v] ∧ H' = H) ⟨none, rfl, rfl⟩ (fun i σ H' _ ⟨_, _, e⟩ => by rw [e]; exact SqL.of hW) ?_ ?_⟩
    · rintro i x σ H' hi ⟨v, rfl, rfl⟩
      rw [List.getElem?_map] at hi
      cases e : as[i]? with
      | none => rw [e] at hi; cases hi
      | some b =>
        rw [e] at hi
        obtain rfl : V.ref b = x := Option.some.inj hi
        obtain ⟨w', h1, h2⟩ := paired_get1 hP e
        exact ⟨_, rfl, _, rfl, m, b, w', rfl, .inl (SqL.of h2), hg w' (List.mem_of_getElem? h1), _, rfl, rfl⟩
    · rintro σ H' ⟨v, rfl, rfl⟩
      exact q


end
end K13
namespace K13
open PySem L2
set_option maxRecDepth 100000
set_option maxHeartbeats 4000000
section
variable {P : Program} {w : World} {K : PySem.W.Frag} {mg : Str → Option Value} {base : Heap}
theorem e32 : (Str.ofString " ") = ⟨#[32]⟩ := by decide +kernel
theorem e45 : (Str.ofString "-") = ⟨#[45]⟩ := by decide +kernel
theorem fig8 : (Str.ofString "12345678").length ≤ sizeLine := by decide +kernel
theorem line_of {n : Nat} (h : n < 1000) : n ≤ sizeLine := Nat.le_of_lt (small1000 (by omega))
def spShownW (K : PySem.W.Frag) : Sp := fun vs H Q _ => ∃ (b : Addr) (m : Nat) (w : List Int), vs = [.ref b] ∧ SqL K H b (w.map V.int) ∧ m ≤ 8 ∧ Sh.Good m w ∧ ∀ H', Same H H' → Q (.str (Sh.word (Sh.norm w))) H'
theorem ok_shown_wish (T : Txt K mg) : Cal P w K mg base 1 "shown_wish" ["wish"] (spShownW K) := by
  refine T.d_shown_wish.ok sc_shown_wish (fun vs H Q E h => ?_) (fun f cdv A outer s H vs Q E hr h => ?_)
  · obtain ⟨b, m, w, rfl, _⟩ := h
    rfl
  · obtain ⟨b, m, w', rfl, hS, h8, hg, q⟩ := h
    refine ⟨_, (pss_cons (ps_if (pt_cmpR op_eq (pe_callB (k_len (K := K) rfl) rfl T.b_len PySem.boot_len (pa_cons (pv 0) pa_nil)) pe_int (nomark _)) (pss_one (ps_ret (pe_cst T.c_NO_BOOKS rfl))) pss_nil) (pss_one (ps_ret (pe_sm PySem.F.slot_str_join PySem.F.type_str_join mt_join pe_str (pa_cons (pe_comp (own := own_shown_wish_c0) (cap := cap_shown_wish_c0) rfl rfl bs_shown_wish_c0 (k_list (K := K) rfl (k_sortSet (K := K) rfl rfl T.b_sorted rfl T.b_set rfl (pv 0))) (fun _ _ _ _ => (pg_name (i := 0) nd_shown_wish_c0 rfl (Or.inl rfl) (Or.inr rfl))) (fun _ _ _ _ => pts_nil) (fun _ _ _ _ => (pe_callTy call_str_int rfl T.b_str PyProof.Rows.boot_str (pa_cons (pe_op op_add (pv 0) pe_int) pa_nil)))) pa_nil))))), ?_⟩
    refine ⟨_, rfl, b, _, rfl, .inl hS, rfl, _, rfl, ?_⟩
    rw [List.length_map]
    have n8 := Sh.norm_len w'
    refine ite2 (fun e => ?_) (fun e => ?_)
    · have e0 : w' = [] := List.length_eq_zero_iff.mp (by have := V.int.inj (of_decide_eq_true e); omega)
      have := q H (Same.refl H)
      rw [e0, show Sh.word (Sh.norm []) = Str.ofString "-" from e45.symm] at this
      exact this
    · have n0 : w' ≠ [] := fun z => e (decide_eq_true (by rw [z]; rfl))
      have nn : Sh.norm w' ≠ [] := fun z => n0 ((Sh.norm_nil h8 hg).mp z)
      have gn := Sh.norm_good h8 hg
      refine ⟨_, rfl, _, rfl, b, w', rfl, hS, fun x hx => ⟨(hg.1 x hx).1, by have := (hg.1 x hx).2; omega⟩, fun c fc => ⟨c, rfl, ⟨_, SqL.of upd_same⟩, fun l2 f2 => ?_⟩⟩
      have ncl : c ≠ l2 := fun z => by rw [← z, upd_same] at f2; cases f2
      have s1 := Same.new (o := .lst ((Sh.norm w').map V.int)) fc
      refine c_list (K := K) (a := c) (xs := (Sh.norm w').map V.int) (fun i ys σ H' => ∃ u, σ = [u] ∧ Same H H' ∧ H' c = some (.lst ((Sh.norm w').map V.int)) ∧ H' l2 = some (.lst ys) ∧ ys = ((Sh.norm w').take i).map fun b => V.str (Sh.figs [b]))
        ⟨none, rfl, s1.trans (Same.new f2), by rw [upd_ne ncl]; exact upd_same, upd_same, rfl⟩ (fun i ys σ H' _ ⟨_, _, _, z, _⟩ => SqL.of z) ?_ ?_
      · rintro i x ys σ H' hi ⟨u, rfl, s2, hc, hL, rfl⟩
        rw [List.getElem?_map] at hi
        cases e : (Sh.norm w')[i]? with
        | none => rw [e] at hi; cases hi
        | some z =>
          rw [e] at hi
          obtain rfl : V.int z = x := Option.some.inj hi
          have hz := gn.1 z (List.mem_of_getElem? e)
          refine ⟨_, rfl, _, _, rfl, rfl, _, rfl, Nat.lt_of_le_of_lt (Nat.log2_le_self _) (by show (z + 1).natAbs < 1920; omega), hL, ?_, _, rfl, s2.put (s1.free f2), ?_, upd_same, ?_⟩
          · rw [List.length_map]
            exact small1000 (by have := List.length_take_le' i (Sh.norm w'); omega)
          · rw [upd_ne ncl]
            exact hc
          · rw [List.take_add_one, e, Option.toList_some, List.map_append]
            show _ = _ ++ [V.str (Sh.figs [z])]
            rw [← Sh.fig_told hz.1 (by omega)]
      · rintro ys σ H' ⟨u, rfl, s2, hc, hL, rfl⟩
        rw [List.length_map, List.take_length] at hL
        have el : (Sh.norm w').map (fun b => V.str (Sh.figs [b])) = ((Sh.norm w').map fun b => Sh.figs [b]).map V.str := by rw [List.map_map]; rfl
        rw [el] at hL
        refine ⟨_, l2, _, rfl, rfl, hL, by decide +kernel, ?_, ?_⟩
        · have : (((Sh.norm w').map fun b => Sh.figs [b]).map (·.length)).sum = (Sh.norm w').length := by
            rw [List.map_map]
            induction Sh.norm w' with
            | nil => rfl
            | cons a r ih => rw [List.map_cons, List.sum_cons, ih, List.length_cons]; show 1 + _ = _; omega
          rw [this, List.length_map]
          omega
        · rw [Sh.join_figs (by decide +kernel)]
          have := q H' s2
          unfold Sh.word at this
          rw [if_neg nn] at this
          exact this

def spShown (K : PySem.W.Frag) : Sp := fun vs H Q _ => ∃ (m : Nat) (lw : Addr) (ws : List (List Int)), vs = [.int m, .ref lw] ∧ WL H lw ws ∧ 1 ≤ m ∧ m ≤ 8 ∧ ws.length ≤ 12 ∧ (∀ w ∈ ws, Sh.Good m w) ∧ ∀ H', Same H H' → Q (.str (Sh.text m (ws.map Sh.norm))) H'
theorem ok_shown (T : Txt K mg) : Cal P w K mg base 3 "shown" ["many", "wishes"] (spShown K) := by
  have C_check_wishes := ok_check_wishes (P := P) (w := w) (base := base) T
  have C_shown_wish := ok_shown_wish (P := P) (w := w) (base := base) T
  refine T.d_shown.ok sc_shown (fun vs H Q E h => ?_) (fun f cdv A outer s H vs Q E hr h => ?_)
  · obtain ⟨m, lw, ws, rfl, _⟩ := h
    rfl
  · obtain ⟨m, lw, ws, rfl, hW, h1, h8, h12, hg, q⟩ := h
    refine ⟨_, (pss_cons (ps_expr (pe_cal C_check_wishes (hr.mono (by first | decide | omega)) rfl (pa_cons (pv 0) (pa_cons (pv 1) pa_nil)))) (pss_one (ps_ret (pe_sm PySem.F.slot_str_join PySem.F.type_str_join mt_join pe_str (pa_cons (pe_op op_cat (pe_lst (pa_cons (pe_fstr (PFs.cons (pf_int (pv 0)) (PFs.cons pf_lit PFs.nil))) pa_nil)) (pe_comp (own := own_shown_c0) (cap := cap_shown_c0) rfl rfl bs_shown_c0 (k_list (K := K) rfl (pv 1)) (fun _ _ _ _ => (pg_name (i := 0) nd_shown_c0 rfl (Or.inl rfl) (Or.inr rfl))) (fun _ _ _ _ => pts_nil) (fun _ _ _ _ => (pe_cal C_shown_wish (hr.mono (by first | decide | omega)) rfl (pa_cons (pv 0) pa_nil))))) pa_nil))))), ?_⟩
    refine ⟨_, rfl, _, rfl, m, lw, ws, rfl, hW, hg, ?_⟩
    obtain ⟨as, hA, hP⟩ := id hW
    have lenA : as.length = ws.length := Paired.length hP
    have et : Str.empty ++ Str.ofString (toString (m : Int)) ++ Str.ofString ":" = Sh.hd m := by
      rw [← Sh.hd_told h1 h8]
      refine Sh.str_ext ?_
      rw [Sh.str_app, Sh.str_app, Sh.str_app]
      rfl
    have lg : (m : Int).natAbs.log2 < 1920 := Nat.lt_of_le_of_lt (Nat.log2_le_self _) (by omega)
    have l2 : (Sh.hd m).length = 2 := rfl
    have la : (Str.empty ++ Str.ofString (toString (m : Int))).length ≤ 2 := by rw [← l2, ← et, Str.length_append (Str.empty ++ Str.ofString (toString (m : Int)))]; omega
    refine ⟨_, rfl, _, rfl, _, rfl, lg, line_of (by omega), ?_, (by show 1 ≤ sizeLine; decide), fun l1 f1 => ?_⟩
    · rw [et, l2]
      exact line_of (by omega)
    rw [et]
    have s1 := Same.new (o := .lst [V.str (Sh.hd m)]) f1
    have hl1 : upd H l1 (.lst [V.str (Sh.hd m)]) l1 = some (.lst [V.str (Sh.hd m)]) := upd_same
    generalize upd H l1 (.lst [V.str (Sh.hd m)]) = H1 at *
    refine ⟨_, rfl, lw, rfl, ⟨_, SqL.of (s1 _ _ hA)⟩, fun l3 f3 => ?_⟩
    have n13 : l1 ≠ l3 := fun z => by rw [← z, hl1] at f3; cases f3
    refine c_list (K := K) (a := lw) (xs := as.map V.ref) (fun i ys σ H' => ∃ u, σ = [u] ∧ Same H1 H' ∧ H' l3 = some (.lst ys) ∧ ys = (((ws.map Sh.norm).take i).map Sh.word).map V.str)
      ⟨none, rfl, Same.new f3, upd_same, rfl⟩ (fun i ys σ H' _ ⟨_, _, z, _⟩ => SqL.of (z _ _ (s1 _ _ hA))) ?_ ?_
    · rintro i x ys σ H' hi ⟨u, rfl, s2, hL, rfl⟩
      rw [List.getElem?_map] at hi
      cases e : as[i]? with
      | none => rw [e] at hi; cases hi
      | some b =>
        rw [e] at hi
        obtain rfl : V.ref b = x := Option.some.inj hi
        obtain ⟨w', h1', h2'⟩ := paired_get1 hP e
        refine ⟨_, rfl, b, m, w', rfl, SqL.of (s2 _ _ (s1 _ _ h2')), h8, hg w' (List.mem_of_getElem? h1'), fun H2 s3 => ⟨s3 _ _ hL, ?_, _, rfl, (s2.trans s3).put f3, upd_same, ?_⟩⟩
        · rw [List.length_map, List.length_map]
          have := List.length_take_le' i (ws.map Sh.norm)
          rw [List.length_map] at this
          exact small1000 (by omega)
        · rw [List.take_add_one, List.getElem?_map, h1', Option.map_some, Option.toList_some, List.map_append, List.map_append]
          rfl
    · rintro ys σ H' ⟨u, rfl, s2, hL, rfl⟩
      rw [List.length_map, lenA, ← List.length_map (f := Sh.norm), List.take_length] at hL
      refine ⟨l1, l3, _, _, rfl, rfl, s2 _ _ hl1, hL, ?_, fun l4 f4 => ?_⟩
      · rw [List.length_map, List.length_map, List.length_map]
        exact line_of (by show 1 + _ < 1000; omega)
      have wb : ∀ l : List (List Int), (∀ w ∈ l, w.length ≤ 8) → ((l.map Sh.word).map (·.length)).sum ≤ 9 * l.length := fun l hl => by
        induction l with
        | nil => exact Nat.zero_le _
        | cons a r ih =>
          rw [List.map_cons, List.map_cons, List.sum_cons, List.length_cons]
          have := Sh.word_len a
          have := hl a (by simp)
          have := ih fun w hw => hl w (List.mem_cons_of_mem _ hw)
          omega
      have := wb (ws.map Sh.norm) fun w hw => by
        obtain ⟨w0, _, rfl⟩ := List.mem_map.mp hw
        exact Sh.norm_len w0
      refine ⟨_, l4, Sh.hd m :: (ws.map Sh.norm).map Sh.word, rfl, rfl, upd_same, by decide +kernel, ?_, ?_⟩
      · rw [List.map_cons, List.sum_cons, List.length_cons, List.length_map, List.length_map, l2]
        rw [List.length_map] at this
        omega
      · rw [e32]
        exact q _ ((s1.trans s2).trans (Same.new f4))

theorem hd_in {m : Nat} (h1 : 1 ≤ m) (h8 : m ≤ 8) : Builtin.Str.occurrences (Str.ofString "12345678") ⟨#[48 + m]⟩ 0 (Str.ofString "12345678").length 1 = [m - 1] := by
  have : m = 1 ∨ m = 2 ∨ m = 3 ∨ m = 4 ∨ m = 5 ∨ m = 6 ∨ m = 7 ∨ m = 8 := by omega
  rcases this with rfl | rfl | rfl | rfl | rfl | rfl | rfl | rfl <;> decide +kernel
def spReadM : Sp := fun vs H Q _ => ∃ m : Nat, vs = [.str (Sh.hd m)] ∧ 1 ≤ m ∧ m ≤ 8 ∧ Q (.int m) H
theorem ok_read_many (T : Txt K mg) : Cal P w K mg base 1 "read_many" ["word"] spReadM := by
  refine T.d_read_many.ok sc_read_many (fun vs H Q E h => ?_) (fun f cdv A outer s H vs Q E hr h => ?_)
  · obtain ⟨m, rfl, _⟩ := h
    rfl
  · obtain ⟨m, rfl, h1, h8, q⟩ := h
    refine ⟨_, (pss_cons (ps_if (PW.pt (pw_or (pt_cmpR op_ne (pe_callB call_len_str rfl T.b_len PySem.boot_len (pa_cons (pv 0) pa_nil)) pe_int (nomark _)) (pw_or (pt_cmpR op_notin_str (pe_ix ix_str (pv 0) pe_int (fun _ _ => rfl)) (pe_cst T.c_FIGURES rfl) rfl) (pw_or1 (pt_cmpR op_ne (pe_ix ix_str (pv 0) pe_int (fun _ _ => rfl)) pe_str (nomark _)))))) (pss_one ps_never) pss_nil) (pss_one (ps_ret (pe_op op_add (pe_sm PySem.F.slot_str_index PySem.F.type_str_index mt_sindex (pe_cst T.c_FIGURES rfl) (pa_cons (pe_ix ix_str (pv 0) pe_int (fun _ _ => rfl)) pa_nil)) pe_int)))), ?_⟩
    have sz : (Sh.hd m).length ≤ sizeLine := line_of (by show 2 < 1000; omega)
    refine ⟨_, rfl, _, rfl, sz, rfl, _, rfl, iteNS rfl ?_⟩
    refine ⟨_, rfl, _, _, 48 + m, rfl, rfl, sz, rfl, _, _, rfl, rfl, _, rfl, ?_⟩
    rw [hd_in h1 h8]
    refine iteF ?_
    refine ⟨_, rfl, _, _, 58, rfl, rfl, sz, rfl, rfl, _, rfl, iteNS (by decide +kernel) ?_⟩
    refine ⟨_, rfl, _, rfl, _, _, 48 + m, rfl, rfl, sz, rfl, _, _, m - 1, [], rfl, rfl, hd_in h1 h8, _, _, rfl, rfl, ?_⟩
    show Q (V.int (((m - 1 : Nat) : Int) + 1)) H
    rw [show (((m - 1 : Nat) : Int) + 1) = (m : Int) by omega]
    exact q

def spReadW : Sp := fun vs H Q _ => ∃ (m : Nat) (w : List Int), vs = [.int m, .str (Sh.word (Sh.norm w))] ∧ 1 ≤ m ∧ m ≤ 8 ∧ Sh.Good m w ∧ ∀ l H', H l = none → Same H H' → H' l = some (.lst ((Sh.norm w).map V.int)) → Q (.ref l) H'
theorem ok_read_wish (T : Txt K mg) : Cal P w K mg base 1 "read_wish" ["many", "word"] spReadW := by
  refine T.d_read_wish.ok sc_read_wish (fun vs H Q E h => ?_) (fun f cdv A outer s H vs Q E hr h => ?_)
  · obtain ⟨m, w, rfl, _⟩ := h
    rfl
  · obtain ⟨m, w', rfl, h1, h8, hg, q⟩ := h
    refine ⟨_, (pss_cons (ps_if (pt_cmpR op_eq (pv 1) (pe_cst T.c_NO_BOOKS rfl) (nomark _)) (pss_one (ps_ret (pe_lst pa_nil))) pss_nil) (pss_cons (ps_comp (i := 2) (own := own_read_wish_c1) (cap := cap_read_wish_c1) rfl rfl bs_read_wish_c1 sc_read_wish.nd rfl rfl rfl (pi_str (pe_slice sl_str (pe_cst T.c_FIGURES rfl) po_none (po_some (pv 0)))) (fun _ _ _ _ => (pg_name (i := 0) nd_read_wish_c1 rfl (Or.inl rfl) (Or.inr rfl))) (fun _ _ _ _ => (pts_one (pt_cmpR op_in_str (pv 0) (pv 1) rfl))) (fun _ _ _ _ => (pv 0))) (pss_cons (ps_if (PW.pt (pw_or (pt_cmpR op_eq (pe_callB (k_len (K := K) rfl) rfl T.b_len PySem.boot_len (pa_cons (pv 2) pa_nil)) pe_int (nomark _)) (pw_or1 (pt_cmpR op_ne (pe_sm PySem.F.slot_str_join PySem.F.type_str_join mt_join pe_str (pa_cons (pv 2) pa_nil)) (pv 1) (nomark _))))) (pss_one ps_never) pss_nil) (pss_one (ps_ret (pe_comp (own := own_read_wish_c0) (cap := cap_read_wish_c0) rfl rfl bs_read_wish_c0 (k_list (K := K) rfl (pv 2)) (fun _ _ _ _ => (pg_name (i := 0) nd_read_wish_c0 rfl (Or.inl rfl) (Or.inr rfl))) (fun _ _ _ _ => pts_nil) (fun _ _ _ _ => (pe_sm PySem.F.slot_str_index PySem.F.type_str_index mt_sindex (pe_cst T.c_FIGURES rfl) (pa_cons (pv 0) pa_nil))))))))), ?_⟩
    have n8 := Sh.norm_len w'
    have gn := Sh.norm_good h8 hg
    have nb := Sh.norm_back h8 hg
    generalize Sh.norm w' = v at *
    refine ⟨_, rfl, rfl, _, rfl, ?_⟩
    refine ite2 (fun e => ?_) (fun e => ?_)
    · have ev : v = [] := by
        cases v with
        | nil => rfl
        | cons a r =>
          have := V.str.inj (of_decide_eq_true e)
          rw [e45] at this
          unfold Sh.word at this
          rw [if_neg (by simp)] at this
          have h2 := congrArg (fun z : Str => z.cps.toList) this
          rw [Sh.figs_list] at h2
          have h3 : 49 + a.toNat = 45 := (List.cons.inj h2).1
          omega
      subst ev
      exact ⟨Nat.zero_le _, fun l fl => q l _ fl (Same.new fl) upd_same⟩
    · have nv : v ≠ [] := fun z => e (decide_eq_true (by rw [z, e45]; rfl))
      have ew : Sh.word v = Sh.figs v := by unfold Sh.word; rw [if_neg nv]
      rw [ew]
      refine ⟨_, rfl, _, rfl, _, rfl, fig8, _, rfl, fun l2 f2 => ?_⟩
      rw [Sh.fig_cut h1 h8]
      have lenF : (Sh.figs (Sh.rangeI m)).cps.size = m := by
        have := Sh.figs_len (Sh.rangeI m)
        rw [Sh.rangeI_len] at this
        exact this
      refine c_str (x := Sh.figs (Sh.rangeI m)) (fun i ys σ H' => ∃ u, σ = [u, some (.str (Sh.figs v))] ∧ Same H H' ∧ H' l2 = some (.lst ys) ∧ ys = ((Sh.rangeI i).filter fun b => decide (b ∈ v)).map fun b => V.str (Sh.figs [b]))
        ⟨none, rfl, Same.new f2, upd_same, rfl⟩ ?_ ?_
      · rintro i c ys σ H' hi ⟨u, rfl, s2, hL, rfl⟩
        have hiM : i < m := by
          have := (Array.getElem?_eq_some_iff.mp hi).1
          omega
        have hc : c = 49 + i := by
          have e1 : (Sh.figs (Sh.rangeI m)).cps.toList[i]? = some c := by rw [← hi]; simp
          rw [Sh.figs_list, List.getElem?_map] at e1
          unfold Sh.rangeI at e1
          rw [List.getElem?_map, List.getElem?_range hiM] at e1
          have : 49 + ((i : Int)).toNat = c := Option.some.inj e1
          omega
        subst hc
        have ef : (⟨#[49 + i]⟩ : Str) = Sh.figs [(i : Int)] := rfl
        rw [ef]
        refine ⟨_, rfl, _, rfl, _, _, rfl, rfl, _, rfl, ?_⟩
        rw [Sh.in_figs (by omega) (fun x hx => (gn.1 x hx).1)]
        refine ite2 (fun hz => ?_) (fun hz => ?_)
        · refine ⟨_, rfl, hL, ?_, _, rfl, s2.put f2, upd_same, ?_⟩
          · rw [List.length_map]
            have := List.length_filter_le (fun b => decide (b ∈ v)) (Sh.rangeI i)
            rw [Sh.rangeI_len] at this
            exact small1000 (by omega)
          · rw [Sh.rangeI_succ, List.filter_append, List.map_append, List.filter_cons_of_pos (p := fun b => decide (b ∈ v)) hz]
            rfl
        · refine ⟨_, rfl, s2, hL, ?_⟩
          rw [Sh.rangeI_succ, List.filter_append, List.map_append, List.filter_cons_of_neg (p := fun b => decide (b ∈ v)) hz, List.filter_nil, List.map_nil, List.append_nil]
      · rintro ys σ H' ⟨u, rfl, s2, hL, rfl⟩
        rw [lenF, nb] at hL
        have el : v.map (fun b => V.str (Sh.figs [b])) = (v.map fun b => Sh.figs [b]).map V.str := by rw [List.map_map]; rfl
        refine ⟨_, rfl, l2, _, rfl, .inl (SqL.of hL), rfl, _, rfl, ?_⟩
        rw [List.length_map, decide_eq_false (fun z => nv (List.length_eq_zero_iff.mp (by have := V.int.inj z; omega)))]
        refine iteF ?_
        rw [el] at hL
        refine ⟨_, rfl, _, rfl, _, l2, _, rfl, rfl, hL, by decide +kernel, ?_, ?_⟩
        · have : ((v.map fun b => Sh.figs [b]).map (·.length)).sum = v.length := by
            clear hL nb gn e ew q nv el
            rw [List.map_map]
            induction v with
            | nil => rfl
            | cons a r ih => rw [List.map_cons, List.sum_cons, List.length_cons, ih (by simp at n8; omega)]; show 1 + _ = _; omega
          rw [this, List.length_map]
          omega
        rw [Sh.join_figs (by decide +kernel)]
        refine ⟨_, rfl, rfl, _, rfl, iteNS rfl ?_⟩
        refine ⟨_, rfl, l2, rfl, ⟨_, SqL.of hL⟩, fun l3 f3 => ?_⟩
        have n23 : l2 ≠ l3 := fun z => by rw [← z, hL] at f3; cases f3
        refine c_list (K := K) (a := l2) (xs := (v.map fun b => Sh.figs [b]).map V.str) (fun i ys σ H2 => ∃ u, σ = [u] ∧ Same H' H2 ∧ H2 l3 = some (.lst ys) ∧ ys = (v.take i).map V.int)
          ⟨none, rfl, Same.new f3, upd_same, rfl⟩ (fun i ys σ H2 _ ⟨_, _, z, _⟩ => SqL.of (z _ _ hL)) ?_ ?_
        · rintro i x ys σ H2 hi ⟨u, rfl, s3, hL3, rfl⟩
          rw [List.getElem?_map, List.getElem?_map] at hi
          cases e : v[i]? with
          | none => rw [e] at hi; cases hi
          | some z =>
            rw [e] at hi
            obtain rfl : V.str (Sh.figs [z]) = x := Option.some.inj hi
            have hz := gn.1 z (List.mem_of_getElem? e)
            refine ⟨_, rfl, _, rfl, _, _, z.toNat, [], rfl, rfl, Sh.fig_index hz.1 (by omega), hL3, ?_, _, rfl, s3.put f3, upd_same, ?_⟩
            · rw [List.length_map]
              exact small1000 (by have := List.length_take_le' i v; omega)
            · rw [List.take_add_one, e, Option.toList_some, List.map_append, show ((z.toNat : Nat) : Int) = z by omega]
              rfl
        · rintro ys σ H2 ⟨u, rfl, s3, hL3, rfl⟩
          rw [List.length_map, List.length_map, List.take_length] at hL3
          exact q l3 H2 (s2.free f3) (s2.trans s3) hL3

def spRead : Sp := fun vs H Q _ => ∃ (m : Nat) (ws : List (List Int)), vs = [.str (Sh.text m (ws.map Sh.norm))] ∧ 1 ≤ m ∧ m ≤ 8 ∧ ws.length ≤ 12 ∧ (∀ w ∈ ws, Sh.Good m w) ∧
  ∀ t lw as H', H t = none → Same H H' → H' t = some (.tup [.int m, .ref lw]) → Own H H' lw as (ws.map Sh.norm) → Q (.ref t) H'
theorem ok_read (T : Txt K mg) : Cal P w K mg base 2 "read" ["text"] spRead := by
  have C_read_many := ok_read_many (P := P) (w := w) (base := base) T
  have C_read_wish := ok_read_wish (P := P) (w := w) (base := base) T
  refine T.d_read.ok sc_read (fun vs H Q E h => ?_) (fun f cdv A outer s H vs Q E hr h => ?_)
  · obtain ⟨m, ws, rfl, _⟩ := h
    rfl
  · obtain ⟨m, ws, rfl, h1, h8, h12, hg, q⟩ := h
    refine ⟨_, (pss_cons (ps_set (i := 1) sc_read.nd rfl (Or.inl rfl) (pe_sm PySem.F.slot_str_split PySem.F.type_str_split mt_split (pv 0) (pa_cons pe_str pa_nil))) (pss_cons (ps_set (i := 2) sc_read.nd rfl (Or.inr rfl) (pe_cal C_read_many (hr.mono (by first | decide | omega)) rfl (pa_cons (pe_ix (k_ixL (K := K) rfl) (pv 1) pe_int (fun _ _ => rfl)) pa_nil))) (pss_cons (ps_if (pt_cmpR op_gt (pe_op op_sub (pe_callB (k_len (K := K) rfl) rfl T.b_len PySem.boot_len (pa_cons (pv 1) pa_nil)) pe_int) (pe_cst T.c_MOST_WISHES rfl) (nomark _)) (pss_one ps_never) pss_nil) (pss_one (ps_ret (pe_tup (pa_cons (pv 2) (pa_cons (pe_comp (own := own_read_c0) (cap := cap_read_c0) rfl rfl bs_read_c0 (k_list (K := K) rfl (pe_slice (k_slL (K := K) rfl) (pv 1) (po_some pe_int) po_none)) (fun _ _ _ _ => (pg_name (i := 0) nd_read_c0 rfl (Or.inl rfl) (Or.inr rfl))) (fun _ _ _ _ => pts_nil) (fun _ _ _ _ => (pe_cal C_read_wish (hr.mono (by first | decide | omega)) rfl (pa_cons (pv 1) (pa_cons (pv 0) pa_nil))))) pa_nil)))))))), ?_⟩
    have tl := Sh.text_len (m := m) (ws := ws.map Sh.norm) fun w hw => by
      obtain ⟨w0, _, rfl⟩ := List.mem_map.mp hw
      have := Sh.norm_len w0
      omega
    rw [List.length_map] at tl
    refine ⟨_, rfl, _, rfl, _, _, rfl, rfl, by decide +kernel, line_of (by omega), fun lw0 f0 => ?_⟩
    rw [e32, Sh.text_split]
    have s1 := Same.new (o := .lst ((Sh.hd m :: (ws.map Sh.norm).map Sh.word).map V.str)) f0
    have h0 : upd H lw0 (.lst ((Sh.hd m :: (ws.map Sh.norm).map Sh.word).map V.str)) lw0 = some (.lst ((Sh.hd m :: (ws.map Sh.norm).map Sh.word).map V.str)) := upd_same
    generalize upd H lw0 (.lst ((Sh.hd m :: (ws.map Sh.norm).map Sh.word).map V.str)) = H1 at *
    refine ⟨_, rfl, lw0, _, _, V.str (Sh.hd m), rfl, rfl, SqL.of h0, atI_nat (j := 0) rfl, m, rfl, h1, h8, ?_⟩
    refine ⟨_, rfl, lw0, _, rfl, .inl (SqL.of h0), _, _, rfl, rfl, _, _, rfl, rfl, _, rfl, ?_⟩
    rw [List.length_map, List.length_cons, List.length_map, List.length_map, decide_eq_false (by omega)]
    refine iteF ?_
    refine ⟨_, rfl, _, rfl, _, rfl, lw0, _, rfl, SqL.of h0, fun lc fc => ⟨lc, rfl, ⟨_, SqL.of upd_same⟩, fun l3 f3 => ?_⟩⟩
    have ec : cutV ((Sh.hd m :: (ws.map Sh.norm).map Sh.word).map V.str) (some 1) none = ((ws.map Sh.norm).map Sh.word).map V.str := by
      rw [show (1 : Int) = ((1 : Nat) : Int) from rfl, cut_drop]
      rfl
    rw [ec]
    have s2 := s1.trans (Same.new (o := .lst (((ws.map Sh.norm).map Sh.word).map V.str)) fc)
    have hc : upd H1 lc (.lst (((ws.map Sh.norm).map Sh.word).map V.str)) lc = some (.lst (((ws.map Sh.norm).map Sh.word).map V.str)) := upd_same
    rw [ec] at f3
    generalize upd H1 lc (.lst (((ws.map Sh.norm).map Sh.word).map V.str)) = H2 at *
    have fr3 := s2.free f3
    refine c_list (K := K) (a := lc) (xs := ((ws.map Sh.norm).map Sh.word).map V.str) (fun i ys σ H' => ∃ u as, σ = [u, some (.int m)] ∧ Same H2 H' ∧ ys = as.map V.ref ∧ Own H H' l3 as ((ws.map Sh.norm).take i))
      ⟨none, [], rfl, Same.new f3, rfl, ⟨upd_same, fr3, by simp, .nil⟩⟩ (fun i ys σ H' _ ⟨_, _, _, z, _⟩ => SqL.of (z _ _ hc)) ?_ ?_
    · rintro i x ys σ H' hi ⟨u, as, rfl, s3, rfl, O⟩
      rw [List.getElem?_map, List.getElem?_map, List.getElem?_map] at hi
      cases e : ws[i]? with
      | none => rw [e] at hi; cases hi
      | some w' =>
        rw [e] at hi
        obtain rfl : V.str (Sh.word (Sh.norm w')) = x := Option.some.inj hi
        refine ⟨_, rfl, _, rfl, m, w', rfl, h1, h8, hg w' (List.mem_of_getElem? e), fun c H3 fc s4 hc4 => ⟨s4 _ _ O.at_, ?_, _, as ++ [c], rfl, (s3.trans s4).put f3, ?_, ?_⟩⟩
        · rw [List.length_map, O.len]
          have := List.length_take_le' i (ws.map Sh.norm)
          rw [List.length_map] at this
          exact small1000 (by omega)
        · rw [List.map_append]
          rfl
        · rw [List.take_add_one, List.getElem?_map, e]
          exact O.snoc s4 fc hc4 ((s2.trans s3).free fc)
    · rintro ys σ H' ⟨u, as, rfl, s3, rfl, O⟩
      rw [List.length_map, List.length_map, List.take_length] at O
      refine ⟨(by show 2 ≤ sizeLine; decide), fun t ft => ?_⟩
      exact q t l3 as _ ((s2.trans s3).free ft) ((s2.trans s3).trans (Same.new ft)) upd_same (O.same (Same.new ft))

end
end K13
namespace K13
open PySem L2
set_option maxRecDepth 100000
set_option maxHeartbeats 4000000
section
variable {P : Program} {w : World} {K : PySem.W.Frag} {mg : Str → Option Value} {base : Heap}
def spWhole : Sp := fun vs H Q _ => ∃ z : Int, vs = [.int z] ∧ Q (.bl true) H
theorem ok__law_whole (T : Txt K mg) : Cal P w K mg base 1 "_law_whole" ["found"] spWhole := by
  refine T.d__law_whole.ok sc__law_whole (fun vs H Q E h => ?_) (fun f cdv A outer s H vs Q E hr h => ?_)
  · obtain ⟨z, rfl, _⟩ := h
    rfl
  · obtain ⟨z, rfl, q⟩ := h
    refine ⟨_, (pss_one (ps_ret (pe_and (pe_callB (k_isinst (K := K) rfl) rfl T.b_isinstance PyProof.Rows.boot_isinstance (pa_cons (pv 0) (pa_cons (pe_bltn (v := .ty "int") rfl T.b_int PyProof.Rows.boot_int rfl) pa_nil))) (pe_one (pe_not (pe_callB (k_isinst (K := K) rfl) rfl T.b_isinstance PyProof.Rows.boot_isinstance (pa_cons (pv 0) (pa_cons (pe_bltn (v := .ty "bool") rfl T.b_bool PyProof.Rows.boot_bool rfl) pa_nil)))))))), ?_⟩
    refine ⟨_, rfl, _, _, _, _, rfl, .int z, kit_same, _, rfl, iteT ?_⟩
    exact ⟨_, rfl, _, _, _, _, rfl, .int z, kit_int_bool, _, rfl, q⟩


end
end K13
namespace K13
open PySem L2
set_option maxRecDepth 100000
set_option maxHeartbeats 4000000
section
variable {P : Program} {w : World} {K : PySem.W.Frag} {mg : Str → Option Value} {base : Heap}
def spRight13 : Sp := fun vs H Q _ => ∃ (t lw ld : Addr) (m : Nat) (ds : List (List Int)), vs = [.ref t, .int m, .ref ld] ∧ H t = some (.tup [.int m, .ref lw]) ∧ WL H lw ds ∧ WL H ld ds ∧ ∀ H', Same H H' → Q (.bl true) H'
theorem ok__law_right (T : Txt K mg) : Cal P w K mg base 2 "_law_right" ["found", "many", "due"] spRight13 := by
  have C__law_whole := ok__law_whole (P := P) (w := w) (base := base) T
  refine T.d__law_right.ok sc__law_right (fun vs H Q E h => ?_) (fun f cdv A outer s H vs Q E hr h => ?_)
  · obtain ⟨t, lw, ld, m, ds, rfl, _⟩ := h
    rfl
  · obtain ⟨t, lw, ld, m, ds, rfl, hT, hW, hD, q⟩ := h
    have hu64 := room64 hr
    refine ⟨_, (pss_cons (ps_if (PW.pt (pw_or (pt_not (pt_val (pe_callB (k_isinst (K := K) rfl) rfl T.b_isinstance PyProof.Rows.boot_isinstance (pa_cons (pv 0) (pa_cons (pe_bltn (v := .ty "tuple") rfl T.b_tuple PyProof.Rows.boot_tuple rfl) pa_nil))))) (pw_or (pt_cmpR op_ne (pe_callB (k_len (K := K) rfl) rfl T.b_len PySem.boot_len (pa_cons (pv 0) pa_nil)) pe_int (nomark _)) (pw_or (pt_not (pt_val (pe_cal C__law_whole (hr.mono (by first | decide | omega)) rfl (pa_cons (pe_ix (k_ixT (K := K) rfl) (pv 0) pe_int (fun _ _ => rfl)) pa_nil)))) (pw_or1 (pt_cmpR op_ne (pe_ix (k_ixT (K := K) rfl) (pv 0) pe_int (fun _ _ => rfl)) (pv 1) (nomark _))))))) (pss_one (ps_ret pe_bl)) pss_nil) (pss_cons (ps_if (PW.pt (pw_or (pt_not (pt_val (pe_callB (k_isinst (K := K) rfl) rfl T.b_isinstance PyProof.Rows.boot_isinstance (pa_cons (pe_ix (k_ixT (K := K) rfl) (pv 0) pe_int (fun _ _ => rfl)) (pa_cons (pe_bltn (v := .ty "list") rfl T.b_list PyProof.Rows.boot_list rfl) pa_nil))))) (pw_or1 (pt_cmpR (k_neD (K := K) rfl hu64) (pe_ix (k_ixT (K := K) rfl) (pv 0) pe_int (fun _ _ => rfl)) (pv 2) (nomark _))))) (pss_one (ps_ret pe_bl)) pss_nil) (pss_cons (ps_for PassesOwn.never rfl (k_list (K := K) rfl (pe_ix (k_ixT (K := K) rfl) (pv 0) pe_int (fun _ _ => rfl))) (pg_name (i := 3) sc__law_right.nd rfl (Or.inl rfl)) (pss_one (ps_if (PW.pt (pw_or (pt_not (pt_val (pe_callB (k_isinst (K := K) rfl) rfl T.b_isinstance PyProof.Rows.boot_isinstance (pa_cons (pv 3) (pa_cons (pe_bltn (v := .ty "list") rfl T.b_list PyProof.Rows.boot_list rfl) pa_nil))))) (pw_or1 (pt_cmpR op_gt (pe_callB (k_len (K := K) rfl) rfl T.b_len PySem.boot_len (pa_cons (pe_comp (own := own__law_right_c0) (cap := cap__law_right_c0) rfl rfl bs__law_right_c0 (k_list (K := K) rfl (pv 3)) (fun _ _ _ _ => (pg_name (i := 0) nd__law_right_c0 rfl (Or.inl rfl) (Or.inr rfl))) (fun _ _ _ _ => (pts_one (pt_not (pt_val (pe_cal C__law_whole (hr.mono (by first | decide | omega)) rfl (pa_cons (pv 0) pa_nil)))))) (fun _ _ _ _ => (pv 0))) pa_nil)) pe_int (nomark _))))) (pss_one (ps_ret pe_bl)) pss_nil))) (pss_one (ps_ret pe_bl))))), ?_⟩
    refine ⟨_, rfl, _, _, _, _, rfl, .tup hT, kit_same, _, rfl, iteF ?_⟩
    refine ⟨_, rfl, t, _, rfl, .inr (SqT.of hT), rfl, _, rfl, iteNS rfl ?_⟩
    refine ⟨_, rfl, t, _, _, _, rfl, rfl, SqT.of hT, rfl, (m : Int), rfl, _, rfl, iteF ?_⟩
    refine ⟨_, rfl, t, _, _, _, rfl, rfl, SqT.of hT, rfl, _, rfl, rfl, _, rfl, iteNS rfl ?_⟩
    obtain ⟨as, hA, hP⟩ := id hW
    refine ⟨_, rfl, t, _, _, _, rfl, rfl, SqT.of hT, rfl, _, _, _, _, rfl, .lst hA, kit_same, _, rfl, iteF ?_⟩
    refine ⟨_, rfl, t, _, _, _, rfl, rfl, SqT.of hT, rfl, _, rfl, dII ds, dII ds, hW.dt, hD.dt, shaped_II _, shaped_II _, _, rfl, ?_⟩
    show if (!PyData.eqv _ _) = true then _ else _
    rw [eqv_II, decide_eq_true rfl]
    refine iteF ?_
    refine ⟨_, rfl, t, _, _, _, rfl, rfl, SqT.of hT, rfl, lw, rfl, ⟨_, SqL.of hA⟩, for_list (K := K) (a := lw) (xs := as.map V.ref) (fun i σ H' => ∃ v, σ = [some (.ref t), some (.int m), some (.ref ld), v] ∧ Same H H') ⟨none, rfl, Same.refl _⟩ (fun i σ H' _ ⟨_, _, z⟩ => SqL.of (z _ _ hA)) ?_ ?_⟩
    · rintro i x σ H' hi ⟨v, rfl, s1⟩
      rw [List.getElem?_map] at hi
      cases e : as[i]? with
      | none => rw [e] at hi; cases hi
      | some b =>
        rw [e] at hi
        obtain rfl : V.ref b = x := Option.some.inj hi
        obtain ⟨w', h1', h2'⟩ := paired_get1 hP e
        have hb := s1 _ _ h2'
        refine ⟨_, rfl, _, _, _, _, rfl, .lst hb, kit_same, _, rfl, iteF ?_⟩
        refine ⟨_, rfl, b, rfl, ⟨_, SqL.of hb⟩, fun l2 f2 => ?_⟩
        refine c_list (K := K) (a := b) (xs := w'.map V.int) (fun i ys σ H2 => ∃ u, σ = [u] ∧ Same H' H2 ∧ H2 l2 = some (.lst ys) ∧ ys = []) ⟨none, rfl, Same.new f2, upd_same, rfl⟩ (fun i ys σ H2 _ ⟨_, _, z, _⟩ => SqL.of (z _ _ hb)) ?_ ?_
        · rintro i x ys σ H2 hi ⟨u, rfl, s2, hL, rfl⟩
          rw [List.getElem?_map] at hi
          cases e : w'[i]? with
          | none => rw [e] at hi; cases hi
          | some z =>
            rw [e] at hi
            obtain rfl : V.int z = x := Option.some.inj hi
            exact ⟨_, rfl, z, rfl, _, rfl, iteF ⟨_, rfl, s2, hL, rfl⟩⟩
        · rintro ys σ H2 ⟨u, rfl, s2, hL, rfl⟩
          exact ⟨l2, _, rfl, .inl (SqL.of hL), _, _, rfl, rfl, _, rfl, iteF ⟨_, rfl, s1.trans s2⟩⟩
    · rintro σ H' ⟨v, rfl, s1⟩
      exact q H' s1

def spLaw (K : PySem.W.Frag) : Sp := fun vs H Q _ => ∃ (a : Addr) (ns : List Int), vs = [.ref a] ∧ SqL K H a (ns.map V.int) ∧ ns.length ≤ 63 ∧ ∀ H', Q (.bl true) H'
theorem ok_law {f : Addr} {fd : FuncData} (F : Fun K "law" "law" s_law f fd) (T : Txt K mg) : FnOk P w K mg base CX0 5 f fd ["script"] (spLaw K) := by
  have C__law_wishes := ok__law_wishes (P := P) (w := w) (base := base) T
  have C__law_right := ok__law_right (P := P) (w := w) (base := base) T
  have C_shown := ok_shown (P := P) (w := w) (base := base) T
  have C_read := ok_read (P := P) (w := w) (base := base) T
  refine F.ok sc_law (fun vs H Q E h => ?_) (fun cdv A outer s H vs Q E hr h => ?_)
  · obtain ⟨a, ns, rfl, _⟩ := h
    rfl
  · obtain ⟨a, ns, rfl, hS, hlen, q⟩ := h
    have hu64 := room64 hr
    refine ⟨_, (pss_cons (ps_set (i := 1) sc_law.nd rfl (Or.inl rfl) (pe_cal C__law_wishes (hr.mono (by first | decide | omega)) rfl (pa_cons (pv 0) (pa_cons pe_int (pa_cons pe_int (pa_cons pe_int pa_nil)))))) (pss_cons (ps_set (i := 2) sc_law.nd rfl (Or.inl rfl) (pe_ix (k_ixT (K := K) rfl) (pv 1) pe_int (fun _ _ => rfl))) (pss_cons (ps_set (i := 3) sc_law.nd rfl (Or.inr rfl) (pe_comp (own := own_law_c3) (cap := cap_law_c3) rfl rfl bs_law_c3 (k_list (K := K) rfl (pe_ix (k_ixT (K := K) rfl) (pv 1) pe_int (fun _ _ => rfl))) (fun _ _ _ _ => (pg_name (i := 0) nd_law_c3 rfl (Or.inl rfl) (Or.inr rfl))) (fun _ _ _ _ => pts_nil) (fun _ _ _ _ => (k_sortSet (K := K) rfl rfl T.b_sorted rfl T.b_set rfl (pv 0))))) (pss_cons (ps_set (i := 4) sc_law.nd rfl (Or.inl rfl) (pe_op op_add_str (pe_callTy call_str_int rfl T.b_str PyProof.Rows.boot_str (pa_cons (pv 2) pa_nil)) pe_str)) (pss_cons (ps_for PassesOwn.never rfl (k_list (K := K) rfl (pv 3)) (pg_name (i := 5) sc_law.nd rfl (Or.inl rfl)) (pss_cons (ps_set (i := 6) sc_law.nd rfl (Or.inl rfl) (pe_sm PySem.F.slot_str_join PySem.F.type_str_join mt_join pe_str (pa_cons (pe_comp (own := own_law_c2) (cap := cap_law_c2) rfl rfl bs_law_c2 (k_list (K := K) rfl (pv 5)) (fun _ _ _ _ => (pg_name (i := 0) nd_law_c2 rfl (Or.inl rfl) (Or.inr rfl))) (fun _ _ _ _ => pts_nil) (fun _ _ _ _ => (pe_ix ix_str pe_str (pv 0) (fun _ _ => rfl)))) pa_nil))) (pss_one (ps_set (i := 4) sc_law.nd rfl (Or.inl rfl) (pe_op op_add_str (pe_op op_add_str (pv 4) pe_str) (pe_ife (pt_cmpR op_ne (pv 6) pe_str (nomark _)) (pv 6) pe_str)))))) (pss_cons (ps_comp (i := 7) (own := own_law_c1) (cap := cap_law_c1) rfl rfl bs_law_c1 sc_law.nd rfl rfl rfl (k_list (K := K) rfl (pe_ix (k_ixT (K := K) rfl) (pv 1) pe_int (fun _ _ => rfl))) (fun _ _ _ _ => (pg_name (i := 0) nd_law_c1 rfl (Or.inl rfl) (Or.inr rfl))) (fun _ _ _ _ => pts_nil) (fun _ _ _ _ => (pe_callTy (k_listOf (K := K) rfl) rfl T.b_list PyProof.Rows.boot_list (pa_cons (pv 0) pa_nil)))) (pss_cons (ps_set (i := 8) sc_law.nd rfl (Or.inl rfl) (pe_cal C_shown (hr.mono (by first | decide | omega)) rfl (pa_cons (pv 2) (pa_cons (pv 7) pa_nil)))) (pss_cons (ps_if (PW.pt (pw_or (pt_not (pt_val (pe_callB (k_isinst (K := K) rfl) rfl T.b_isinstance PyProof.Rows.boot_isinstance (pa_cons (pv 8) (pa_cons (pe_bltn (v := .ty "str") rfl T.b_str PyProof.Rows.boot_str rfl) pa_nil))))) (pw_or (pt_cmpR op_ne (pv 8) (pv 4) (nomark _)) (pw_or1 (pt_cmpR (k_neD (K := K) rfl hu64) (pv 7) (pe_ix (k_ixT (K := K) rfl) (pv 1) pe_int (fun _ _ => rfl)) (nomark _)))))) (pss_one (ps_ret pe_bl)) pss_nil) (pss_cons (ps_set (i := 9) sc_law.nd rfl (Or.inl rfl) (pe_cal C_read (hr.mono (by first | decide | omega)) rfl (pa_cons (pv 4) pa_nil))) (pss_cons (ps_if (pt_not (pt_val (pe_cal C__law_right (hr.mono (by first | decide | omega)) rfl (pa_cons (pv 9) (pa_cons (pv 2) (pa_cons (pv 3) pa_nil)))))) (pss_one (ps_ret pe_bl)) pss_nil) (pss_cons (ps_for PassesOwn.never rfl (pi_range1 rfl T.b_range (pa_cons (pe_callB (k_len (K := K) rfl) rfl T.b_len PySem.boot_len (pa_cons (pv 3) pa_nil)) pa_nil)) (pg_name (i := 10) sc_law.nd rfl (Or.inl rfl)) (pss_one (ps_expr (pe_bm PySem.F.plainAttrs_list PySem.F.slot_list_append PySem.F.type_list_append mt_append (pe_ix (k_ixL (K := K) rfl) (pe_ix (k_ixT (K := K) rfl) (pv 9) pe_int (fun _ _ => rfl)) (pv 10) (fun _ _ => rfl)) (pa_cons (pe_op op_add pe_int (pv 10)) pa_nil))))) (pss_cons (ps_if (pt_cmpR (k_neD (K := K) rfl hu64) (pe_ix (k_ixT (K := K) rfl) (pv 9) pe_int (fun _ _ => rfl)) (pe_comp (own := own_law_c0) (cap := cap_law_c0) rfl rfl bs_law_c0 (pi_range1 rfl T.b_range (pa_cons (pe_callB (k_len (K := K) rfl) rfl T.b_len PySem.boot_len (pa_cons (pv 3) pa_nil)) pa_nil)) (fun _ _ _ _ => (pg_name (i := 0) nd_law_c0 rfl (Or.inl rfl) (Or.inr rfl))) (fun _ _ _ _ => pts_nil) (fun _ _ _ _ => (pe_op op_cat (pe_ix (k_ixL (K := K) rfl) (pv 1) (pv 0) (fun _ _ => rfl)) (pe_lst (pa_cons (pe_op op_add pe_int (pv 0)) pa_nil))))) (nomark _)) (pss_one (ps_ret pe_bl)) pss_nil) (pss_cons (ps_expr (pe_bm0 PySem.F.plainAttrs_list PySem.F.slot_list_clear PySem.F.type_list_clear mt_clear (pe_ix (k_ixT (K := K) rfl) (pv 9) pe_int (fun _ _ => rfl)))) (pss_one (ps_ret (pe_cal C__law_right (hr.mono (by first | decide | omega)) rfl (pa_cons (pe_cal C_read (hr.mono (by first | decide | omega)) rfl (pa_cons (pv 4) pa_nil)) (pa_cons (pv 2) (pa_cons (pv 3) pa_nil))))))))))))))))))), ?_⟩
    refine ⟨_, rfl, a, ns, 0, 8, 12, rfl, hS, by decide, by decide, by decide, by decide, fun t lw m ws H1 ft flw s1 ht hW h1 h8 h12 hg => ?_⟩
    refine ⟨_, rfl, t, _, _, _, rfl, rfl, SqT.of ht, rfl, ?_⟩
    obtain ⟨as, hA, hP⟩ := id hW
    refine ⟨_, rfl, t, _, _, _, rfl, rfl, SqT.of ht, rfl, lw, rfl, ⟨_, SqL.of hA⟩, fun ld fld => c_norm hW (by omega) h8 hg fld fun H2 s2 hD => ?_⟩
    obtain ⟨ds, hds⟩ : ∃ ds, ws.map Sh.norm = ds := ⟨_, rfl⟩
    have lenD : ds.length = ws.length := by rw [← hds, List.length_map]
    have gd : ∀ v ∈ ds, Sh.Good m v ∧ v.length ≤ 8 := fun v hv => by
      rw [← hds] at hv
      obtain ⟨w0, h0, rfl⟩ := List.mem_map.mp hv
      exact ⟨Sh.norm_good h8 (hg w0 h0), Sh.norm_len w0⟩
    rw [hds] at hD
    have hDW := hD.wl
    obtain ⟨bs, hB, hBP⟩ := id hDW
    have lenB : bs.length = ds.length := Paired.length hBP
    have lg : (m : Int).natAbs.log2 < 1920 := Nat.lt_of_le_of_lt (Nat.log2_le_self _) (by omega)
    have eh := Sh.hd_told h1 h8
    have l2 : (Str.ofString (toString (m : Int))).length + (Str.ofString ":").length = 2 := by rw [← Str.length_append, eh]; rfl
    refine ⟨_, rfl, _, rfl, lg, _, _, rfl, rfl, by rw [l2]; exact line_of (by omega), ?_⟩
    rw [eh]
    have tl : ∀ i, (Sh.text m (ds.take i)).length ≤ 19 * 13 := fun i => by
      have := Sh.text_len (m := m) (ws := ds.take i) fun w hw => by have := (gd w (List.mem_of_mem_take hw)).2; omega
      have := List.length_take_le' i ds
      omega
    refine ⟨_, rfl, ld, rfl, ⟨_, SqL.of hB⟩, for_list (K := K) (a := ld) (xs := bs.map V.ref) (fun i σ H' => ∃ v1 v2, σ = [some (.ref a), some (.ref t), some (.int m), some (.ref ld), some (.str (Sh.text m (ds.take i))), v1, v2, none, none, none, none] ∧ Same H2 H') ⟨none, none, rfl, Same.refl _⟩ (fun i σ H' _ ⟨_, _, _, z⟩ => SqL.of (z _ _ hB)) ?_ ?_⟩
    · rintro i x σ H' hi ⟨v1, v2, rfl, s3⟩
      rw [List.getElem?_map] at hi
      cases e : bs[i]? with
      | none => rw [e] at hi; cases hi
      | some b =>
        rw [e] at hi
        obtain rfl : V.ref b = x := Option.some.inj hi
        obtain ⟨v, hv1, hv2⟩ := paired_get1 hBP e
        have hb := s3 _ _ hv2
        have gv := gd v (List.mem_of_getElem? hv1)
        refine ⟨_, rfl, _, rfl, b, rfl, ⟨_, SqL.of hb⟩, fun l3 f3 => ?_⟩
        refine c_list (K := K) (a := b) (xs := v.map V.int) (fun i ys σ H3 => ∃ u, σ = [u] ∧ Same H' H3 ∧ H3 l3 = some (.lst ys) ∧ ys = ((v.take i).map fun b => Sh.figs [b]).map V.str) ⟨none, rfl, Same.new f3, upd_same, rfl⟩ (fun i ys σ H3 _ ⟨_, _, z, _⟩ => SqL.of (z _ _ hb)) ?_ ?_
        · rintro i x ys σ H3 hi ⟨u, rfl, s4, hL, rfl⟩
          rw [List.getElem?_map] at hi
          cases e : v[i]? with
          | none => rw [e] at hi; cases hi
          | some z =>
            rw [e] at hi
            obtain rfl : V.int z = x := Option.some.inj hi
            have hz := gv.1.1 z (List.mem_of_getElem? e)
            have hat : atI (Str.ofString "12345678").cps.toList z = some (49 + z.toNat) := by
              have := atI_nat (Sh.fig_at hz.1 (by omega))
              rwa [show ((z.toNat : Nat) : Int) = z by omega] at this
            refine ⟨_, rfl, _, _, 49 + z.toNat, rfl, rfl, fig8, hat, hL, ?_, _, rfl, s4.put f3, upd_same, ?_⟩
            · rw [List.length_map, List.length_map]
              exact small1000 (by have := List.length_take_le' i v; have := gv.2; omega)
            · rw [List.take_add_one, e, Option.toList_some, List.map_append, List.map_append]
              rfl
        · rintro ys σ H3 ⟨u, rfl, s4, hL, rfl⟩
          rw [List.length_map, List.take_length] at hL
          refine ⟨_, l3, _, rfl, rfl, hL, by decide +kernel, ?_, ?_⟩
          · have : ∀ v : List Int, ((v.map fun b => Sh.figs [b]).map (·.length)).sum = v.length := fun v => by
              rw [List.map_map]
              induction v with
              | nil => rfl
              | cons a r ih => rw [List.map_cons, List.sum_cons, ih, List.length_cons]; show 1 + _ = _; omega
            rw [this, List.length_map]
            have := gv.2
            omega
          rw [Sh.join_figs (by decide +kernel)]
          have t1 := tl i
          have t2 := tl (i + 1)
          have et : Sh.text m (ds.take (i + 1)) = Sh.text m (ds.take i) ++ Str.ofString " " ++ Sh.word v := by
            rw [List.take_add_one, hv1, Option.toList_some, Sh.text_snoc, e32]
          refine ⟨_, rfl, _, _, rfl, rfl, ?_, _, rfl, rfl, _, rfl, ?_⟩
          · exact line_of (by show _ + 1 < 1000; omega)
          have lt : (Sh.text m (ds.take i) ++ Str.ofString " ").length + (Sh.word v).length ≤ 19 * 13 := by rw [← Str.length_append, ← et]; exact t2
          refine ite2 (fun z => ?_) (fun z => ?_)
          · have nv : v ≠ [] := fun y => by
              rw [y] at z
              exact absurd z (by decide +kernel)
            have ew : Sh.word v = Sh.figs v := by unfold Sh.word; rw [if_neg nv]
            rw [ew] at et lt
            refine ⟨_, rfl, _, _, rfl, rfl, line_of (by omega), some (V.ref b), some (V.str (Sh.figs v)), ?_, s3.trans s4⟩
            rw [et]
            rfl
          · have ev : v = [] := by
              cases v with
              | nil => rfl
              | cons b r =>
                refine absurd ?_ z
                rw [decide_eq_false fun y => ?_]
                · rfl
                · have := congrArg (fun z : Str => z.cps.toList) (V.str.inj y)
                  rw [Sh.figs_list] at this
                  exact absurd this (by intro c; cases c)
            have ew : Sh.word v = Str.ofString "-" := by rw [ev]; exact e45.symm
            rw [ew] at et lt
            refine ⟨_, _, rfl, rfl, line_of (by omega), some (V.ref b), some (V.str (Sh.figs v)), ?_, s3.trans s4⟩
            rw [et]
            rfl
    · rintro σ H3 ⟨v1, v2, rfl, s3⟩
      rw [List.length_map, lenB, List.take_length]
      have s13 := s2.trans s3
      refine ⟨_, rfl, t, _, _, _, rfl, rfl, SqT.of (s13 _ _ ht), rfl, lw, rfl, ⟨_, SqL.of (s13 _ _ hA)⟩, fun lh fh => c_copy (hW.same s13) (by omega) fh fun H4 s4 hH => ?_⟩
      refine ⟨_, rfl, _, rfl, m, lh, ws, rfl, hH.wl, h1, h8, h12, hg, fun H5 s5 => ?_⟩
      rw [hds]
      refine ⟨_, rfl, _, _, _, _, rfl, .str _, kit_same, _, rfl, iteF ?_⟩
      refine ⟨_, rfl, _, rfl, rfl, _, rfl, iteNS rfl ?_⟩
      have s15 := s13.trans (s4.trans s5)
      refine ⟨_, rfl, _, rfl, t, _, _, _, rfl, rfl, SqT.of (s15 _ _ ht), rfl, dII ws, dII ws, (hH.wl.same s5).dt, (hW.same s15).dt, shaped_II _, shaped_II _, _, rfl, ?_⟩
      show if (!PyData.eqv _ _) = true then _ else _
      rw [eqv_II, decide_eq_true rfl]
      refine iteF ?_
      have hD5 : WL H5 ld ds := hDW.same (s3.trans (s4.trans s5))
      have hB5 : H5 ld = some (.lst (bs.map V.ref)) := (s3.trans (s4.trans s5)) _ _ hB
      have hBP5 : Paired (fun b w => H5 b = some (.lst (w.map V.int))) bs ds := Paired.mapP hBP fun _ _ e => (s3.trans (s4.trans s5)) _ _ e
      refine ⟨_, rfl, m, ws, congrArg (fun d => [V.str (Sh.text m d)]) hds.symm, h1, h8, h12, hg, fun t2 lt cs H6 ft2 s6 ht2 O => ?_⟩
      rw [hds] at O
      refine ⟨_, rfl, _, rfl, _, rfl, t2, lt, ld, m, ds, rfl, ht2, O.wl, hD5.same s6, fun H7 s7 => ⟨_, rfl, iteF ?_⟩⟩
      have lenC : cs.length = ds.length := O.len
      have s57 := s6.trans s7
      have ht7 := s7 _ _ ht2
      have O7 := O.same s7
      refine ⟨_, rfl, ld, _, rfl, .inl (SqL.of (s57 _ _ hB5)), _, rfl, by rw [List.length_map, lenB]; omega, by rw [List.length_map, lenB]; omega, for_range (n := ((bs.map V.ref).length : Int).toNat) (fun i σ H' => ∃ v3, σ = [some (.ref a), some (.ref t), some (.int m), some (.ref ld), some (.str (Sh.text m ds)), v1, v2, some (.ref lh), some (.str (Sh.text m ds)), some (.ref t2), v3] ∧ Same H5 H' ∧ H' t2 = some (.tup [.int m, .ref lt]) ∧ Own H5 H' lt cs (marks (ds.take i) ++ ds.drop i))
        ⟨none, rfl, s57, ht7, O7⟩ ?_ ?_⟩
      · rintro i σ H8 hi ⟨v3, rfl, s8, ht8, O8⟩
        have hi : i < ds.length := by
          have : i < ((bs.map V.ref).length : Int).toNat := hi
          rw [List.length_map, lenB] at this
          omega
        obtain ⟨v, hv⟩ : ∃ v, ds[i]? = some v := ⟨_, List.getElem?_eq_getElem hi⟩
        obtain ⟨c, hc, ⟨ncl, fc⟩, hcv⟩ := paired_get O8.pr (marks_at hv)
        have ntc : t2 ≠ c := ne_of ht8 hcv (by intro z; cases z)
        rw [show (0 : Int) + (i : Int) = (i : Int) by omega]
        refine ⟨_, rfl, t2, _, _, _, rfl, rfl, SqT.of ht8, rfl, _, rfl, lt, _, _, V.ref c, rfl, rfl, SqL.of O8.at_, atI_nat (by rw [List.getElem?_map, hc]; rfl), .inl ⟨rfl, _, SqL.of hcv⟩, _, rfl, _, _, rfl, rfl, c, _, _, rfl, rfl, hcv, ?_, _, rfl, s8.put fc, ?_, ?_⟩
        · rw [List.length_map]
          have := (gd v (List.mem_of_getElem? hv)).2
          exact small1000 (by omega)
        · rw [upd_ne ntc]
          exact ht8
        · have := O8.put (x := v ++ [50 + (i : Int)]) hc
          rw [marks_set hv, List.map_append] at this
          exact this
      · rintro σ H8 ⟨v3, rfl, s8, ht8, O8⟩
        rw [List.length_map, lenB, Int.toNat_natCast, List.take_length, List.drop_length, List.append_nil] at O8
        have hB8 := s8 _ _ hB5
        refine ⟨_, rfl, t2, _, _, _, rfl, rfl, SqT.of ht8, rfl, _, rfl, ld, _, rfl, .inl (SqL.of hB8), _, rfl, by rw [List.length_map, lenB]; omega, by rw [List.length_map, lenB]; omega, fun l5 f5 => ?_⟩
        refine c_range (lo := 0) (n := ((bs.map V.ref).length : Int).toNat) (fun i ys σ H9 => ∃ u es, σ = [u, some (.ref ld)] ∧ Same H8 H9 ∧ H9 l5 = some (.lst ys) ∧ ys = es.map V.ref ∧ Paired (fun b w => b ≠ l5 ∧ H9 b = some (.lst (w.map V.int))) es (marks (ds.take i)))
          ⟨none, [], rfl, Same.new f5, upd_same, rfl, .nil⟩ ?_ ?_
        · rintro i ys σ H9 hi ⟨u, es, rfl, s9, hL, rfl, hE⟩
          have hi : i < ds.length := by
            have : i < ((bs.map V.ref).length : Int).toNat := hi
            rw [List.length_map, lenB] at this
            omega
          obtain ⟨v, hv⟩ : ∃ v, ds[i]? = some v := ⟨_, List.getElem?_eq_getElem hi⟩
          obtain ⟨b, hb, hbv⟩ := paired_get hBP5 hv
          have s59 := s8.trans s9
          have v8 := (gd v (List.mem_of_getElem? hv)).2
          rw [show (0 : Int) + (i : Int) = (i : Int) by omega]
          refine ⟨_, rfl, _, rfl, ld, _, _, V.ref b, rfl, rfl, SqL.of (s59 _ _ hB5), atI_nat (by rw [List.getElem?_map, hb]; rfl), _, rfl, _, _, rfl, rfl, (by show 1 ≤ sizeLine; decide), fun l6 f6 => ?_⟩
          refine ⟨b, l6, _, _, rfl, rfl, (Same.new f6) _ _ (s59 _ _ hbv), upd_same, ?_, fun l7 f7 => ?_⟩
          · rw [List.length_map]
            exact line_of (by show _ + 1 < 1000; omega)
          have s97 := (Same.new (o := .lst [V.int (50 + (i : Int))]) f6).trans (Same.new (o := .lst (v.map V.int ++ [V.int (50 + (i : Int))])) f7)
          have f7' : H9 l7 = none := (Same.new (o := .lst [V.int (50 + (i : Int))]) f6).free f7
          have n57 : l7 ≠ l5 := fun z => by rw [z, hL] at f7'; cases f7'
          refine ⟨s97 _ _ hL, ?_, _, es ++ [l7], rfl, (s9.trans s97).put f5, upd_same, ?_, ?_⟩
          · rw [List.length_map, Paired.length hE, marks_len]
            have := List.length_take_le' i ds
            exact small1000 (by omega)
          · rw [List.map_append]
            rfl
          · have lti : (ds.take i).length = i := by rw [List.length_take]; omega
            rw [List.take_add_one, hv, Option.toList_some, marks_snoc, lti]
            refine Paired.snoc (Paired.mapP hE fun d w e => ⟨e.1, ?_⟩) ⟨n57, ?_⟩
            · rw [upd_ne e.1]
              exact s97 _ _ e.2
            · rw [upd_ne n57, upd_same, List.map_append]
              rfl
        · rintro ys σ H9 ⟨u, es, rfl, s9, hL, rfl, hE⟩
          rw [List.length_map, lenB, Int.toNat_natCast, List.take_length] at hE
          refine ⟨dII (marks ds), dII (marks ds), (O8.same s9).wl.dt, WL.dt ⟨es, hL, Paired.mapP hE fun _ _ e => e.2⟩, shaped_II _, shaped_II _, _, rfl, ?_⟩
          show if (!PyData.eqv _ _) = true then _ else _
          rw [eqv_II, decide_eq_true rfl]
          refine iteF ?_
          have ht9 := s9 _ _ ht8
          have hl9 := s9 _ _ O8.at_
          refine ⟨_, rfl, t2, _, _, _, rfl, rfl, SqT.of ht9, rfl, .inl ⟨rfl, _, SqL.of hl9⟩, lt, _, rfl, rfl, hl9, ?_⟩
          have s5e : Same H5 (upd H9 lt (.lst [])) := (s8.trans s9).put O8.nw
          refine ⟨_, rfl, m, ws, congrArg (fun d => [V.str (Sh.text m d)]) hds.symm, h1, h8, h12, hg, fun t3 lt3 cs3 H10 ft3 s10 ht3 O3 => ?_⟩
          rw [hds] at O3
          exact ⟨_, rfl, _, rfl, t3, lt3, ld, m, ds, rfl, ht3, O3.wl, hD5.same (s5e.trans s10), fun H11 s11 => q H11⟩

end
end K13
namespace K13
open PySem L2
set_option maxRecDepth 100000
set_option maxHeartbeats 0 in
theorem all_mk {l : PySem.W.OpenLaw} {w : World} {K : PySem.W.Frag} {h : Heap} {mg : Str → Option Value} {fa : Addr} (X : K.In h) (G : h.Ns mainGlobals mg) (hfa : mg "law" = some (.ref fa))
    {f0 : Addr} {od0 an0 : Option Addr} {sl0 : Array (Option Value)} {oc0 kV0 dc0 pm0 cd0 ct0 : Value}
    {f1 : Addr} {od1 an1 : Option Addr} {sl1 : Array (Option Value)} {oc1 kV1 dc1 pm1 cd1 ct1 : Value}
    {f2 : Addr} {od2 an2 : Option Addr} {sl2 : Array (Option Value)} {oc2 kV2 dc2 pm2 cd2 ct2 : Value}
    {f3 : Addr} {od3 an3 : Option Addr} {sl3 : Array (Option Value)} {oc3 kV3 dc3 pm3 cd3 ct3 : Value}
    {f4 : Addr} {od4 an4 : Option Addr} {sl4 : Array (Option Value)} {oc4 kV4 dc4 pm4 cd4 ct4 : Value}
    {f5 : Addr} {od5 an5 : Option Addr} {sl5 : Array (Option Value)} {oc5 kV5 dc5 pm5 cd5 ct5 : Value}
    {f6 : Addr} {od6 an6 : Option Addr} {sl6 : Array (Option Value)} {oc6 kV6 dc6 pm6 cd6 ct6 : Value}
    {f7 : Addr} {od7 an7 : Option Addr} {sl7 : Array (Option Value)} {oc7 kV7 dc7 pm7 cd7 ct7 : Value}
    {f8 : Addr} {od8 an8 : Option Addr} {sl8 : Array (Option Value)} {oc8 kV8 dc8 pm8 cd8 ct8 : Value}
    {f9 : Addr} {od9 an9 : Option Addr} {sl9 : Array (Option Value)} {oc9 kV9 dc9 pm9 cd9 ct9 : Value}
    {f10 : Addr} {od10 an10 : Option Addr} {sl10 : Array (Option Value)} {oc10 kV10 dc10 pm10 cd10 ct10 : Value}
    {f11 : Addr} {od11 an11 : Option Addr} {sl11 : Array (Option Value)} {oc11 kV11 dc11 pm11 cd11 ct11 : Value}
    {f12 : Addr} {od12 an12 : Option Addr} {sl12 : Array (Option Value)} {oc12 kV12 dc12 pm12 cd12 ct12 : Value}
    {f13 : Addr} {od13 an13 : Option Addr} {sl13 : Array (Option Value)} {oc13 kV13 dc13 pm13 cd13 ct13 : Value}
    {f14 : Addr} {od14 an14 : Option Addr} {sl14 : Array (Option Value)} {oc14 kV14 dc14 pm14 cd14 ct14 : Value}
    {tk0 : Tok}
    {tk1 : Tok}
    {tk2 : Tok}
    (a0 : PySem.W.nsIn K mainGlobals "_law_cell_at" = some (some (.ref f0)))
    (l0 : K.lookup f0 = some ⟨oc0, od0, .func (PySem.W.fnOf "_law_cell_at" "_law_cell_at" (defArgs s__law_cell_at) (defBody s__law_cell_at) (defScope s__law_cell_at) .none kV0 dc0 pm0 an0 cd0 ct0), sl0⟩) (c0 : PySem.W.codeIn K cd0 "_law_cell_at" = true) (k0 : PySem.W.keepIn K (.ref f0) = true)
    (a1 : PySem.W.nsIn K mainGlobals "_law_set" = some (some (.ref f1)))
    (l1 : K.lookup f1 = some ⟨oc1, od1, .func (PySem.W.fnOf "_law_set" "_law_set" (defArgs s__law_set) (defBody s__law_set) (defScope s__law_set) .none kV1 dc1 pm1 an1 cd1 ct1), sl1⟩) (c1 : PySem.W.codeIn K cd1 "_law_set" = true) (k1 : PySem.W.keepIn K (.ref f1) = true)
    (a2 : PySem.W.nsIn K mainGlobals "_law_order" = some (some (.ref f2)))
    (l2 : K.lookup f2 = some ⟨oc2, od2, .func (PySem.W.fnOf "_law_order" "_law_order" (defArgs s__law_order) (defBody s__law_order) (defScope s__law_order) .none kV2 dc2 pm2 an2 cd2 ct2), sl2⟩) (c2 : PySem.W.codeIn K cd2 "_law_order" = true) (k2 : PySem.W.keepIn K (.ref f2) = true)
    (a3 : PySem.W.nsIn K mainGlobals "_law_wish" = some (some (.ref f3)))
    (l3 : K.lookup f3 = some ⟨oc3, od3, .func (PySem.W.fnOf "_law_wish" "_law_wish" (defArgs s__law_wish) (defBody s__law_wish) (defScope s__law_wish) .none kV3 dc3 pm3 an3 cd3 ct3), sl3⟩) (c3 : PySem.W.codeIn K cd3 "_law_wish" = true) (k3 : PySem.W.keepIn K (.ref f3) = true)
    (a4 : PySem.W.nsIn K mainGlobals "_law_wishes" = some (some (.ref f4)))
    (l4 : K.lookup f4 = some ⟨oc4, od4, .func (PySem.W.fnOf "_law_wishes" "_law_wishes" (defArgs s__law_wishes) (defBody s__law_wishes) (defScope s__law_wishes) .none kV4 dc4 pm4 an4 cd4 ct4), sl4⟩) (c4 : PySem.W.codeIn K cd4 "_law_wishes" = true) (k4 : PySem.W.keepIn K (.ref f4) = true)
    (a5 : PySem.W.nsIn K mainGlobals "check_books" = some (some (.ref f5)))
    (l5 : K.lookup f5 = some ⟨oc5, od5, .func (PySem.W.fnOf "check_books" "check_books" (defArgs s_check_books) (defBody s_check_books) (defScope s_check_books) .none kV5 dc5 pm5 an5 cd5 ct5), sl5⟩) (c5 : PySem.W.codeIn K cd5 "check_books" = true) (k5 : PySem.W.keepIn K (.ref f5) = true)
    (a6 : PySem.W.nsIn K mainGlobals "check_wishes" = some (some (.ref f6)))
    (l6 : K.lookup f6 = some ⟨oc6, od6, .func (PySem.W.fnOf "check_wishes" "check_wishes" (defArgs s_check_wishes) (defBody s_check_wishes) (defScope s_check_wishes) .none kV6 dc6 pm6 an6 cd6 ct6), sl6⟩) (c6 : PySem.W.codeIn K cd6 "check_wishes" = true) (k6 : PySem.W.keepIn K (.ref f6) = true)
    (a7 : PySem.W.nsIn K mainGlobals "shown_wish" = some (some (.ref f7)))
    (l7 : K.lookup f7 = some ⟨oc7, od7, .func (PySem.W.fnOf "shown_wish" "shown_wish" (defArgs s_shown_wish) (defBody s_shown_wish) (defScope s_shown_wish) .none kV7 dc7 pm7 an7 cd7 ct7), sl7⟩) (c7 : PySem.W.codeIn K cd7 "shown_wish" = true) (k7 : PySem.W.keepIn K (.ref f7) = true)
    (a8 : PySem.W.nsIn K mainGlobals "shown" = some (some (.ref f8)))
    (l8 : K.lookup f8 = some ⟨oc8, od8, .func (PySem.W.fnOf "shown" "shown" (defArgs s_shown) (defBody s_shown) (defScope s_shown) .none kV8 dc8 pm8 an8 cd8 ct8), sl8⟩) (c8 : PySem.W.codeIn K cd8 "shown" = true) (k8 : PySem.W.keepIn K (.ref f8) = true)
    (a9 : PySem.W.nsIn K mainGlobals "read_many" = some (some (.ref f9)))
    (l9 : K.lookup f9 = some ⟨oc9, od9, .func (PySem.W.fnOf "read_many" "read_many" (defArgs s_read_many) (defBody s_read_many) (defScope s_read_many) .none kV9 dc9 pm9 an9 cd9 ct9), sl9⟩) (c9 : PySem.W.codeIn K cd9 "read_many" = true) (k9 : PySem.W.keepIn K (.ref f9) = true)
    (a10 : PySem.W.nsIn K mainGlobals "read_wish" = some (some (.ref f10)))
    (l10 : K.lookup f10 = some ⟨oc10, od10, .func (PySem.W.fnOf "read_wish" "read_wish" (defArgs s_read_wish) (defBody s_read_wish) (defScope s_read_wish) .none kV10 dc10 pm10 an10 cd10 ct10), sl10⟩) (c10 : PySem.W.codeIn K cd10 "read_wish" = true) (k10 : PySem.W.keepIn K (.ref f10) = true)
    (a11 : PySem.W.nsIn K mainGlobals "read" = some (some (.ref f11)))
    (l11 : K.lookup f11 = some ⟨oc11, od11, .func (PySem.W.fnOf "read" "read" (defArgs s_read) (defBody s_read) (defScope s_read) .none kV11 dc11 pm11 an11 cd11 ct11), sl11⟩) (c11 : PySem.W.codeIn K cd11 "read" = true) (k11 : PySem.W.keepIn K (.ref f11) = true)
    (a12 : PySem.W.nsIn K mainGlobals "_law_whole" = some (some (.ref f12)))
    (l12 : K.lookup f12 = some ⟨oc12, od12, .func (PySem.W.fnOf "_law_whole" "_law_whole" (defArgs s__law_whole) (defBody s__law_whole) (defScope s__law_whole) .none kV12 dc12 pm12 an12 cd12 ct12), sl12⟩) (c12 : PySem.W.codeIn K cd12 "_law_whole" = true) (k12 : PySem.W.keepIn K (.ref f12) = true)
    (a13 : PySem.W.nsIn K mainGlobals "_law_right" = some (some (.ref f13)))
    (l13 : K.lookup f13 = some ⟨oc13, od13, .func (PySem.W.fnOf "_law_right" "_law_right" (defArgs s__law_right) (defBody s__law_right) (defScope s__law_right) .none kV13 dc13 pm13 an13 cd13 ct13), sl13⟩) (c13 : PySem.W.codeIn K cd13 "_law_right" = true) (k13 : PySem.W.keepIn K (.ref f13) = true)
    (a14 : PySem.W.nsIn K mainGlobals "law" = some (some (.ref f14)))
    (l14 : K.lookup f14 = some ⟨oc14, od14, .func (PySem.W.fnOf "law" "law" (defArgs s_law) (defBody s_law) (defScope s_law) .none kV14 dc14 pm14 an14 cd14 ct14), sl14⟩) (c14 : PySem.W.codeIn K cd14 "law" = true) (k14 : PySem.W.keepIn K (.ref f14) = true)
    (cn0 : PySem.W.nsIn K mainGlobals "NO_BOOKS" = some (some (.str "-" tk0)))
    (cn1 : PySem.W.nsIn K mainGlobals "FIGURES" = some (some (.str "12345678" tk1)))
    (cn2 : PySem.W.nsIn K mainGlobals "MOST_WISHES" = some (some (.int 12 tk2)))
    (z0 : PySem.W.nsIn K mainGlobals "len" = some none)
    (z1 : PySem.W.nsIn K mainGlobals "range" = some none)
    (z2 : PySem.W.nsIn K mainGlobals "list" = some none)
    (z3 : PySem.W.nsIn K mainGlobals "reversed" = some none)
    (z4 : PySem.W.nsIn K mainGlobals "sorted" = some none)
    (z5 : PySem.W.nsIn K mainGlobals "set" = some none)
    (z6 : PySem.W.nsIn K mainGlobals "str" = some none)
    (z7 : PySem.W.nsIn K mainGlobals "isinstance" = some none)
    (z8 : PySem.W.nsIn K mainGlobals "bool" = some none)
    (z9 : PySem.W.nsIn K mainGlobals "int" = some none)
    (z10 : PySem.W.nsIn K mainGlobals "tuple" = some none)
    : ∃ fd : FuncData, (∀ (s : Shared) (v : Value), BindsTo s fd ⟨[v], []⟩ [("script", v)]) ∧ ∀ base : Heap, K.In base → base.Ns mainGlobals mg → FnOk l.prog w K mg base CX0 5 fa fd ["script"] (spLaw K) := by
  have e := hfa.symm.trans (PySem.W.mg_of X G a14)
  cases e
  have F0 := fun_mk (st := s__law_cell_at) l0 c0 k0
  have D0 : TDef K mg "_law_cell_at" s__law_cell_at ["script", "k"] := tdef_mk F0 (PySem.W.mg_of X G a0) (F0.binds (ps := ["script", "k"]) fun _ _ _ _ _ _ us hl => match us, hl with | [_, _], _ => rfl)
  have F1 := fun_mk (st := s__law_set) l1 c1 k1
  have D1 : TDef K mg "_law_set" s__law_set ["cell", "many"] := tdef_mk F1 (PySem.W.mg_of X G a1) (F1.binds (ps := ["cell", "many"]) fun _ _ _ _ _ _ us hl => match us, hl with | [_, _], _ => rfl)
  have F2 := fun_mk (st := s__law_order) l2 c2 k2
  have D2 : TDef K mg "_law_order" s__law_order ["script", "at", "many"] := tdef_mk F2 (PySem.W.mg_of X G a2) (F2.binds (ps := ["script", "at", "many"]) fun _ _ _ _ _ _ us hl => match us, hl with | [_, _, _], _ => rfl)
  have F3 := fun_mk (st := s__law_wish) l3 c3 k3
  have D3 : TDef K mg "_law_wish" s__law_wish ["cell", "many", "order"] := tdef_mk F3 (PySem.W.mg_of X G a3) (F3.binds (ps := ["cell", "many", "order"]) fun _ _ _ _ _ _ us hl => match us, hl with | [_, _, _], _ => rfl)
  have F4 := fun_mk (st := s__law_wishes) l4 c4 k4
  have D4 : TDef K mg "_law_wishes" s__law_wishes ["script", "at", "most", "few"] := tdef_mk F4 (PySem.W.mg_of X G a4) (F4.binds (ps := ["script", "at", "most", "few"]) fun _ _ _ _ _ _ us hl => match us, hl with | [_, _, _, _], _ => rfl)
  have F5 := fun_mk (st := s_check_books) l5 c5 k5
  have D5 : TDef K mg "check_books" s_check_books ["many", "books"] := tdef_mk F5 (PySem.W.mg_of X G a5) (F5.binds (ps := ["many", "books"]) fun _ _ _ _ _ _ us hl => match us, hl with | [_, _], _ => rfl)
  have F6 := fun_mk (st := s_check_wishes) l6 c6 k6
  have D6 : TDef K mg "check_wishes" s_check_wishes ["many", "wishes"] := tdef_mk F6 (PySem.W.mg_of X G a6) (F6.binds (ps := ["many", "wishes"]) fun _ _ _ _ _ _ us hl => match us, hl with | [_, _], _ => rfl)
  have F7 := fun_mk (st := s_shown_wish) l7 c7 k7
  have D7 : TDef K mg "shown_wish" s_shown_wish ["wish"] := tdef_mk F7 (PySem.W.mg_of X G a7) (F7.binds (ps := ["wish"]) fun _ _ _ _ _ _ us hl => match us, hl with | [_], _ => rfl)
  have F8 := fun_mk (st := s_shown) l8 c8 k8
  have D8 : TDef K mg "shown" s_shown ["many", "wishes"] := tdef_mk F8 (PySem.W.mg_of X G a8) (F8.binds (ps := ["many", "wishes"]) fun _ _ _ _ _ _ us hl => match us, hl with | [_, _], _ => rfl)
  have F9 := fun_mk (st := s_read_many) l9 c9 k9
  have D9 : TDef K mg "read_many" s_read_many ["word"] := tdef_mk F9 (PySem.W.mg_of X G a9) (F9.binds (ps := ["word"]) fun _ _ _ _ _ _ us hl => match us, hl with | [_], _ => rfl)
  have F10 := fun_mk (st := s_read_wish) l10 c10 k10
  have D10 : TDef K mg "read_wish" s_read_wish ["many", "word"] := tdef_mk F10 (PySem.W.mg_of X G a10) (F10.binds (ps := ["many", "word"]) fun _ _ _ _ _ _ us hl => match us, hl with | [_, _], _ => rfl)
  have F11 := fun_mk (st := s_read) l11 c11 k11
  have D11 : TDef K mg "read" s_read ["text"] := tdef_mk F11 (PySem.W.mg_of X G a11) (F11.binds (ps := ["text"]) fun _ _ _ _ _ _ us hl => match us, hl with | [_], _ => rfl)
  have F12 := fun_mk (st := s__law_whole) l12 c12 k12
  have D12 : TDef K mg "_law_whole" s__law_whole ["found"] := tdef_mk F12 (PySem.W.mg_of X G a12) (F12.binds (ps := ["found"]) fun _ _ _ _ _ _ us hl => match us, hl with | [_], _ => rfl)
  have F13 := fun_mk (st := s__law_right) l13 c13 k13
  have D13 : TDef K mg "_law_right" s__law_right ["found", "many", "due"] := tdef_mk F13 (PySem.W.mg_of X G a13) (F13.binds (ps := ["found", "many", "due"]) fun _ _ _ _ _ _ us hl => match us, hl with | [_, _, _], _ => rfl)
  have F14 := fun_mk (st := s_law) l14 c14 k14
  have T : Txt K mg := ⟨PySem.W.mg_none_of X G z0, PySem.W.mg_none_of X G z1, PySem.W.mg_none_of X G z2, PySem.W.mg_none_of X G z3, PySem.W.mg_none_of X G z4, PySem.W.mg_none_of X G z5, PySem.W.mg_none_of X G z6, PySem.W.mg_none_of X G z7, PySem.W.mg_none_of X G z8, PySem.W.mg_none_of X G z9, PySem.W.mg_none_of X G z10, ⟨_, PySem.W.mg_of X G cn0, ⟨_, rfl⟩⟩, ⟨_, PySem.W.mg_of X G cn1, ⟨_, rfl⟩⟩, ⟨_, PySem.W.mg_of X G cn2, ⟨_, rfl⟩⟩, D0, D1, D2, D3, D4, D5, D6, D7, D8, D9, D10, D11, D12, D13⟩
  exact ⟨PySem.W.fnOf "law" "law" (defArgs s_law) (defBody s_law) (defScope s_law) .none kV14 dc14 pm14 an14 cd14 ct14, fun s v => .of_eq rfl, fun base _ _ => ok_law F14 T⟩
theorem walk {l : PySem.W.OpenLaw} {q : Program} {loose : List Str} {XP : (Str → Option Value) → Heap → Prop} {YP : World → Heap → Prop} {d : DefRec} {K : Params → PySem.W.Frag} (hn : l.most = some 63) (hdf : d.params.defaults = [])
    (hY : ∀ (w : World) (h : Heap), YP w h → (K w.params).In h)
    (F : ∀ (w : World) (mg : Str → Option Value) (fa : Addr) (h : Heap), (K w.params).In h → h.Ns mainGlobals mg → mg d.name = some (.ref fa) →
      ∃ fd : FuncData, (∀ (s : Shared) (u : Value), BindsTo s fd ⟨[u], []⟩ [("script", u)]) ∧ ∀ base : Heap, (K w.params).In base → base.Ns mainGlobals mg → FnOk l.prog w (K w.params) mg base CX0 5 fa fd ["script"] (spLaw (K w.params))) :
    PySem.W.WalkO q loose XP YP l.row.toRowW d [] (fun f vs => PySem.call f vs) :=
  L2.walk_of (n := 63) (k := 5) (x := "script") (CX := fun _ => CX0) (sp := fun w => spLaw (K w.params)) hn (by decide) hdf ⟨rfl, by decide, by decide, rfl⟩ hY F (fun _ _ a ns hl _ hS => ⟨a, ns, rfl, hS, hl, fun _ => rfl⟩) fun _ _ _ _ _ z => z
end K13
open PySem PySem.W PyProof.Rows
set_option maxRecDepth 100000 in
set_option maxHeartbeats 0 in
theorem PySem.Challenge.cw_shelfruns_k13_written_and_read_holds : PySem.Challenge.rw_shelfruns_k13_written_and_read.Holds := by
  w_on; o_law; k_head; (case hw => w_witness2)
  k_fill
  refine K13.walk (l := PySem.Challenge.rw_shelfruns_k13_written_and_read) rfl rfl (fun w h Y => PySem.W.kIn_of Y) ?F
  case F =>
    intro w mg fa h KX G hmg
    refine' K13.all_mk KX G hmg ?a0 ?l0 ?c0 ?k0 ?a1 ?l1 ?c1 ?k1 ?a2 ?l2 ?c2 ?k2 ?a3 ?l3 ?c3 ?k3 ?a4 ?l4 ?c4 ?k4 ?a5 ?l5 ?c5 ?k5 ?a6 ?l6 ?c6 ?k6 ?a7 ?l7 ?c7 ?k7 ?a8 ?l8 ?c8 ?k8 ?a9 ?l9 ?c9 ?k9 ?a10 ?l10 ?c10 ?k10 ?a11 ?l11 ?c11 ?k11 ?a12 ?l12 ?c12 ?k12 ?a13 ?l13 ?c13 ?k13 ?a14 ?l14 ?c14 ?k14 ?cn0 ?cn1 ?cn2 ?z0 ?z1 ?z2 ?z3 ?z4 ?z5 ?z6 ?z7 ?z8 ?z9 ?z10
    (case a0 => k_is)
    (case l0 => k_is)
    (case c0 => k_is)
    (case k0 => k_is)
    (case a1 => k_is)
    (case l1 => k_is)
    (case c1 => k_is)
    (case k1 => k_is)
    (case a2 => k_is)
    (case l2 => k_is)
    (case c2 => k_is)
    (case k2 => k_is)
    (case a3 => k_is)
    (case l3 => k_is)
    (case c3 => k_is)
    (case k3 => k_is)
    (case a4 => k_is)
    (case l4 => k_is)
    (case c4 => k_is)
    (case k4 => k_is)
    (case a5 => k_is)
    (case l5 => k_is)
    (case c5 => k_is)
    (case k5 => k_is)
    (case a6 => k_is)
    (case l6 => k_is)
    (case c6 => k_is)
    (case k6 => k_is)
    (case a7 => k_is)
    (case l7 => k_is)
    (case c7 => k_is)
    (case k7 => k_is)
    (case a8 => k_is)
    (case l8 => k_is)
    (case c8 => k_is)
    (case k8 => k_is)
    (case a9 => k_is)
    (case l9 => k_is)
    (case c9 => k_is)
    (case k9 => k_is)
    (case a10 => k_is)
    (case l10 => k_is)
    (case c10 => k_is)
    (case k10 => k_is)
    (case a11 => k_is)
    (case l11 => k_is)
    (case c11 => k_is)
    (case k11 => k_is)
    (case a12 => k_is)
    (case l12 => k_is)
    (case c12 => k_is)
    (case k12 => k_is)
    (case a13 => k_is)
    (case l13 => k_is)
    (case c13 => k_is)
    (case k13 => k_is)
    (case a14 => k_is)
    (case l14 => k_is)
    (case c14 => k_is)
    (case k14 => k_is)
    (case cn0 => k_is)
    (case cn1 => k_is)
    (case cn2 => k_is)
    (case z0 => k_is); (case z1 => k_is); (case z2 => k_is); (case z3 => k_is); (case z4 => k_is); (case z5 => k_is); (case z6 => k_is); (case z7 => k_is); (case z8 => k_is); (case z9 => k_is); (case z10 => k_is)

