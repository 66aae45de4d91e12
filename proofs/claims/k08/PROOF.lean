import PyProof.Rows.All
import Wide.All
import OpenK.AllK
import Wide.FinOn
import Lean
import PyProof.EqAt
import PyProof.EqKinds
import PyProof.TupleCall
import PySem.Challenge.RW_shelfruns_k08_whole_clashes
set_option Elab.async false
set_option linter.all false
set_option maxRecDepth 100000
namespace L2
open PySem PySem.Spec PyProof.Rows

abbrev Key := Sum Int Str
def keyIs : Key → Value → Bool
  | .inl k, v => Value.isInt k v
  | .inr x, v => Value.isStrOf x v
def keyH (w : World) : Key → Int
  | .inl k => hashInt k
  | .inr x => hashStr w x
theorem keyIs_shape : ∀ {k : Key} {v : Value}, keyIs k v = true → (∃ i t, k = Sum.inl i ∧ v = Value.int i t) ∨ (∃ x t, k = Sum.inr x ∧ v = Value.str x t)
  | .inl i, v, h => by
    obtain ⟨t, e⟩ := Value.isInt_shape (k := i) (v := v) h
    exact .inl ⟨i, t, rfl, e⟩
  | .inr x, v, h => by
    obtain ⟨t, e⟩ := Value.isStrOf_shape (x := x) (v := v) h
    exact .inr ⟨x, t, rfl, e⟩
theorem keyIs_int (i : Int) (t : Tok) : keyIs (.inl i) (.int i t) = true := by simp [keyIs, Value.isInt]
theorem keyIs_str (x : Str) (t : Tok) : keyIs (.inr x) (.str x t) = true := by simp [keyIs, Value.isStrOf]
theorem key_ll (a b : Int) : decide ((Sum.inl a : Key) = Sum.inl b) = (a == b) := by
  by_cases e : a = b
  · subst e; simp
  · have h : ¬ (Sum.inl a : Key) = Sum.inl b := fun q => e (Sum.inl.inj q)
    rw [decide_eq_false h]
    exact (beq_eq_false_iff_ne.mpr e).symm
theorem key_rr (a b : Str) : decide ((Sum.inr a : Key) = Sum.inr b) = decide (a = b) := by
  by_cases e : a = b
  · subst e; simp
  · have h : ¬ (Sum.inr a : Key) = Sum.inr b := fun q => e (Sum.inr.inj q)
    rw [decide_eq_false h, decide_eq_false e]
theorem key_lr (a : Int) (b : Str) : decide ((Sum.inl a : Key) = Sum.inr b) = false := decide_eq_false (fun q => nomatch q)
theorem key_rl (a : Str) (b : Int) : decide ((Sum.inr a : Key) = Sum.inl b) = false := decide_eq_false (fun q => nomatch q)

def mixKind (prog : Program) (w : World) : PySem.KeyKind prog w Key where
  is := keyIs
  hash := keyH w
  inj := fun v a b ha hb => by
    rcases keyIs_shape ha with ⟨i, t, rfl, rfl⟩ | ⟨x, t, rfl, rfl⟩
    · rcases keyIs_shape hb with ⟨j, u, rfl, e⟩ | ⟨y, u, rfl, e⟩
      · injection e with e1 _; rw [e1]
      · exact nomatch e
    · rcases keyIs_shape hb with ⟨j, u, rfl, e⟩ | ⟨y, u, rfl, e⟩
      · exact nomatch e
      · injection e with e1 _; rw [e1]
  byValue := fun k v h => by
    rcases keyIs_shape h with ⟨i, t, rfl, rfl⟩ | ⟨x, t, rfl, rfl⟩ <;> rfl
  pyHash := fun hv h => by
    rcases keyIs_shape hv with ⟨i, t, rfl, rfl⟩ | ⟨x, t, rfl, rfl⟩
    · exact wpAny_pyHash_int h
    · exact wpAny_pyHash_str h
  eqBool := fun hu hv h => by
    rcases keyIs_shape hu with ⟨i, t, rfl, rfl⟩ | ⟨x, t, rfl, rfl⟩
    · rcases keyIs_shape hv with ⟨j, u, rfl, rfl⟩ | ⟨y, u, rfl, rfl⟩
      · rw [key_ll] at h; exact wpAny_eqBool_int h
      · rw [key_lr] at h; exact SeqAt.EqAt.int_str i t y u _ _ _ _ h
    · rcases keyIs_shape hv with ⟨j, u, rfl, rfl⟩ | ⟨y, u, rfl, rfl⟩
      · rw [key_rl] at h; exact SeqAt.EqAt.str_int x t j u _ _ _ _ h
      · rw [key_rr] at h; exact wpAny_eqBool_str h
  «strs» := fun k x t v h => by
    rcases keyIs_shape h with ⟨i, u, rfl, e⟩ | ⟨y, u, rfl, e⟩
    · exact nomatch e
    · injection e with e1 _
      subst e1
      cases v <;> rfl

theorem mixKind_int (prog : Program) (w : World) (i : Int) (t : Tok) : (mixKind prog w).is (.inl i) (.int i t) = true := keyIs_int i t
theorem mixKind_str (prog : Program) (w : World) (x : Str) (t : Tok) : (mixKind prog w).is (.inr x) (.str x t) = true := keyIs_str x t
end L2

namespace L2
open PySem PySem.Spec PyProof.Rows

inductive V where
  | non | bl (b : Bool) | int (i : Int) | str (x : Str) | byt (b : Array UInt8) | flt (b : UInt64) | ref (a : Addr) | ty (n : String)
  deriving DecidableEq

def RelV : V → Value → Prop
  | .non, u => u = Value.none
  | .bl b, u => u = Value.bool b
  | .int i, u => ∃ t, u = Value.int i t
  | .str x, u => ∃ t, u = Value.str x t
  | .byt b, u => ∃ t, u = Value.bytes b t
  | .flt b, u => ∃ t, u = Value.float b t
  | .ref a, u => u = Value.ref a
  | .ty n, u => u = Value.type n

abbrev Vals : List V → List Value → Prop := Paired RelV
theorem Vals.length {xs : List V} {us : List Value} (r : Vals xs us) : xs.length = us.length := Paired.length r
theorem Vals.get : ∀ {xs : List V} {us : List Value} {i : Nat} {x : V}, Vals xs us → xs[i]? = some x → ∃ u, us[i]? = some u ∧ RelV x u
  | _, _, _, _, .nil, e => by simp at e
  | _, _, 0, _, .cons r _, e => by simp at e; subst e; exact ⟨_, rfl, r⟩
  | _, _, i + 1, x, .cons _ t, e => by
    obtain ⟨u, h1, h2⟩ := Vals.get (i := i) (x := x) t (by simpa using e)
    exact ⟨u, by simpa using h1, h2⟩
theorem Vals.set {x : V} {u : Value} (r : RelV x u) : ∀ {xs : List V} {us : List Value} (i : Nat), Vals xs us → Vals (xs.set i x) (us.set i u)
  | _, _, _, .nil => .nil
  | _, _, 0, .cons _ t => .cons r t
  | _, _, i + 1, .cons q t => .cons q (Vals.set r i t)
theorem Vals.append : ∀ {xs ys : List V} {us ws : List Value}, Vals xs us → Vals ys ws → Vals (xs ++ ys) (us ++ ws)
  | _, _, _, _, .nil, s => s
  | _, _, _, _, .cons r t, s => .cons r (Vals.append t s)
theorem Vals.take : ∀ {xs : List V} {us : List Value} (n : Nat), Vals xs us → Vals (xs.take n) (us.take n)
  | _, _, 0, _ => .nil
  | _, _, _ + 1, .nil => .nil
  | _, _, n + 1, .cons r t => .cons r (Vals.take n t)
theorem Vals.drop : ∀ {xs : List V} {us : List Value} (n : Nat), Vals xs us → Vals (xs.drop n) (us.drop n)
  | _, _, 0, r => r
  | _, _, _ + 1, .nil => .nil
  | _, _, n + 1, .cons _ t => Vals.drop n t

def RelO : Option V → Option Value → Prop
  | some v, some u => RelV v u
  | none, none => True
  | _, _ => False
def KV {κ : Type} : List (κ × V) → List (κ × Value) → Prop := Paired fun (p : κ × V) (q : κ × Value) => p.1 = q.1 ∧ RelV p.2 q.2

def kV : Key → V
  | .inl i => .int i
  | .inr x => .str x

inductive HO where
  /-- a list -/
  | lst (xs : List V)
  /-- a tuple (never changes) -/
  | tup (xs : List V)
  /-- a dict whose keys are ints and texts; one whose keys are tuples of ints and texts (the empty one is both) -/
  | dK (kvs : List (Key × V)) | dT (kvs : List (List Key × V))
  /-- a set of ints: its members, its size -/
  | set (S : Int → Bool) (n : Nat)
  /-- an instance of the class at C, its dict at dx, its attributes -/
  | ins (C dx : Addr) (fs : List (Str × V))
  /-- the dict of the instance at x -/
  | own (x : Addr)
  /-- the dict of an exception -/
  | xd (fs : List (Str × V))
  /-- a bound method, f of x -/
  | met (f x : Addr)
  /-- a range object lo, lo + 1, .. below hi -/
  | rng (lo hi : Int)
  /-- a thing that is known to the object (the script; a dict while a loop walks it): read, never written while it is so -/
  | frz (o : Obj) (u : HO)
  /-- a code object's table -/
  | tbl (ps : Array Value)
  /-- any other thing, by what is true of its one object (a def of one's own: SetO a S n := HO.ext fun h => ..) -/
  | ext (φ : Heap → Prop)

abbrev Hp := Addr → Option HO
def upd (H : Hp) (a : Addr) (o : HO) : Hp := fun b => if b = a then some o else H b
theorem upd_same {H : Hp} {a : Addr} {o : HO} : upd H a o a = some o := by unfold upd; rw [if_pos rfl]
theorem upd_ne {H : Hp} {a b : Addr} {o : HO} (h : b ≠ a) : upd H a o b = H b := by unfold upd; rw [if_neg h]
theorem ne_of {H : Hp} {a b : Addr} {o u : HO} (h : H a = some o) (h' : H b = some u) (d : o ≠ u) : a ≠ b := by
  intro e; subst e; rw [h] at h'; exact d (Option.some.inj h')
theorem ne_of_none {H : Hp} {a b : Addr} {o : HO} (h : H a = some o) (h' : H b = none) : a ≠ b := by
  intro e; subst e; rw [h] at h'; cases h'

section
variable (P : Program) (w : World)
def ObjOk (H : Hp) (h : Heap) (a : Addr) : HO → Prop
  | .lst xs => xs.length ≤ sizeLine ∧ ∃ (its : List Value) (n : Nat), Vals xs its ∧ h.get? a = some { cls := .type "list", data := .seq its.toArray n }
  | .tup xs => xs.length ≤ sizeLine ∧ ∃ its : List Value, Vals xs its ∧ IsTup h a its.toArray
  | .dK kvs => kvs.length ≤ sizeLine ∧ (a == sysModules) = false ∧ ∃ vs, KV kvs vs ∧ h.DictOf (mixKind P w) a vs
  | .dT kvs => kvs.length ≤ sizeLine ∧ (a == sysModules) = false ∧ ∃ xs : List (List Key × Addr × Value),
      Paired (fun (p : List Key × V) (q : List Key × Addr × Value) => p.1 = q.1 ∧ H q.2.1 = some (.tup (p.1.map kV)) ∧ RelV p.2 q.2.2) kvs xs ∧
      ∃ o es ep, h.get? a = some o ∧ o.ExactDict ∧ o.data = .dict es ep ∧ es.toList = xs.map (entryOfKey (tupleKind (mixKind P w))) ∧ (xs.map (·.1)).Nodup
  | .set S n => h.SetOf (intKind P w) a S n
  | .ins C dx fs => H dx = some (.own a) ∧ fs.length ≤ 1000 ∧ dx ≠ a ∧ h.get? a = some (PySem.W.instObj C dx) ∧
      ∃ mA, h.Ns1 dx mA ∧ (∀ f, RelO (fs.lookup f) (mA f)) ∧ PySem.Within mA (fs.map (·.1))
  | .own _ => ∃ o, h.get? a = some o
  | .xd fs => ∃ mA, h.Ns1 a mA ∧ ∀ f, RelO (fs.lookup f) (mA f)
  | .rng lo hi => ∃ t u v, h.get? a = some { cls := .type "range", data := .fields #[.int lo t, .int hi u, .int 1 v] }
  | .frz o u => h.get? a = some o ∧ ObjOk H h a u
  | .tbl ps => h.get? a = some { cls := .none, data := .fields ps }
  | .met f x => h.get? a = some (PySem.W.methodObj (.ref f) (.ref x))
  | .ext φ => φ h ∧ (∃ o, h.get? a = some o) ∧ ∀ h1 h2 : Heap, φ h1 → (∀ o, h1.get? a = some o → h2.get? a = some o) → φ h2
def HOk (H : Hp) (h : Heap) : Prop := ∀ a o, H a = some o → ObjOk P w H h a o
end

section
variable {P : Program} {w : World} {H H' : Hp} {h h' : Heap} {a : Addr} {o : HO}
theorem ObjOk.lt (x : ObjOk P w H h a o) : a < h.objs.size := by
  cases o with
  | lst xs => obtain ⟨_, _, _, _, e⟩ := x; exact Heap.lt_size e
  | tup xs => obtain ⟨_, _, _, p⟩ := x; exact p.lt
  | dK kvs => obtain ⟨_, _, _, _, o, _, _, e, _⟩ := x; exact Heap.lt_size e
  | dT kvs => obtain ⟨_, _, _, _, o, _, _, e, _⟩ := x; exact Heap.lt_size e
  | set S n => obtain ⟨o, _, _, _, e, _⟩ := x; exact Heap.lt_size e
  | ins C dx fs => obtain ⟨_, _, _, e, _⟩ := x; exact Heap.lt_size e
  | own y => obtain ⟨_, e⟩ := x; exact Heap.lt_size e
  | xd fs => obtain ⟨_, ⟨_, _, _, e, _⟩, _⟩ := x; exact Heap.lt_size e
  | rng lo hi => obtain ⟨_, _, _, e⟩ := x; exact Heap.lt_size e
  | frz ob u => obtain ⟨e, _⟩ := x; exact Heap.lt_size e
  | tbl ps => exact Heap.lt_size (show h.get? a = some _ from x)
  | met f y => exact Heap.lt_size (show h.get? a = some _ from x)
  | ext φ => obtain ⟨_, ⟨_, e⟩, _⟩ := x; exact Heap.lt_size e
theorem Paired.mapP {α β : Type} {F G : α → β → Prop} : ∀ {l₁ : List α} {l₂ : List β}, Paired F l₁ l₂ → (∀ a b, F a b → G a b) → Paired G l₁ l₂
  | _, _, .nil, _ => .nil
  | _, _, .cons r t, f => .cons (f _ _ r) (Paired.mapP t f)
theorem ObjOk.stay (x : ObjOk P w H h a o) (k : ∀ b u, (b = a ∨ H b = some (.own a)) → h.get? b = some u → h'.get? b = some u)
    (ho : ∀ b, H b = some (.own a) → H' b = some (.own a)) (ht : ∀ b xs, H b = some (.tup xs) → H' b = some (.tup xs)) : ObjOk P w H' h' a o := by
  induction o with
  | lst xs => obtain ⟨z, its, n, r, e⟩ := x; exact ⟨z, its, n, r, k _ _ (.inl rfl) e⟩
  | tup xs => obtain ⟨z, its, r, ob, e, c⟩ := x; exact ⟨z, its, r, ob, k _ _ (.inl rfl) e, c⟩
  | dK kvs => obtain ⟨z, y, vs, r, ob, es, ep, e, c⟩ := x; exact ⟨z, y, vs, r, ob, es, ep, k _ _ (.inl rfl) e, c⟩
  | dT kvs =>
    obtain ⟨z, y, xs, r, ob, es, ep, e, c⟩ := x
    exact ⟨z, y, xs, Paired.mapP r fun p q z => ⟨z.1, ht _ _ z.2.1, z.2.2⟩, ob, es, ep, k _ _ (.inl rfl) e, c⟩
  | set S n => obtain ⟨ob, es, ep, t, e, c⟩ := x; exact ⟨ob, es, ep, t, k _ _ (.inl rfl) e, c⟩
  | ins C dx fs =>
    obtain ⟨d, z, ne, e, mA, ⟨od, es, ep, e2, c⟩, r⟩ := x
    exact ⟨ho _ d, z, ne, k _ _ (.inl rfl) e, mA, ⟨od, es, ep, k _ _ (.inr d) e2, c⟩, r⟩
  | own y => obtain ⟨ob, e⟩ := x; exact ⟨ob, k _ _ (.inl rfl) e⟩
  | xd fs => obtain ⟨mA, ⟨od, es, ep, e, c⟩, r⟩ := x; exact ⟨mA, ⟨od, es, ep, k _ _ (.inl rfl) e, c⟩, r⟩
  | rng lo hi => obtain ⟨t, u, v, e⟩ := x; exact ⟨t, u, v, k _ _ (.inl rfl) e⟩
  | frz ob u ih => obtain ⟨e, q⟩ := x; exact ⟨k _ _ (.inl rfl) e, ih q⟩
  | tbl ps =>
    have e : h.get? a = some { cls := .none, data := .fields ps } := x
    show h'.get? a = some { cls := .none, data := .fields ps }
    exact k a _ (.inl rfl) e
  | met f y =>
    have e : h.get? a = some (PySem.W.methodObj (.ref f) (.ref y)) := x
    show h'.get? a = some (PySem.W.methodObj (.ref f) (.ref y))
    exact k a _ (.inl rfl) e
  | ext φ => obtain ⟨p, ⟨o, e⟩, st⟩ := x; exact ⟨st _ _ p fun o q => k _ _ (.inl rfl) q, ⟨o, k _ _ (.inl rfl) e⟩, st⟩
theorem HOk.lt (x : HOk P w H h) (e : H a = some o) : a < h.objs.size := (x a o e).lt
theorem HOk.fresh (x : HOk P w H h) (e : h.objs.size ≤ a) : H a = none := by
  cases q : H a with
  | none => rfl
  | some u => exact absurd (Nat.lt_of_lt_of_le (x.lt q) e) (Nat.lt_irrefl _)
theorem HOk.kept (x : HOk P w H h) (k : ∀ b u, h.get? b = some u → h'.get? b = some u) : HOk P w H h' := fun a o e =>
  (x a o e).stay (fun b u _ q => k b u q) (fun _ q => q) fun _ _ q => q
theorem HOk.laid (x : HOk P w H h) (k : ∀ b u, h.get? b = some u → h'.get? b = some u) (hp : h.objs.size ≤ a) (new : ObjOk P w (upd H a o) h' a o) : HOk P w (upd H a o) h' := fun b u e => by
  have hn := x.fresh hp
  by_cases hb : b = a
  · subst hb; rw [upd_same] at e; cases e; exact new
  · rw [upd_ne hb] at e
    exact (x b u e).stay (fun c v _ q => k c v q) (fun c q => by rw [upd_ne (ne_of_none q hn)]; exact q) fun c xs q => by rw [upd_ne (ne_of_none q hn)]; exact q
end

def Rd (H : Hp) (a : Addr) (u : HO) : Prop := H a = some u ∨ ∃ o, H a = some (.frz o u)
theorem Rd.ok {P : Program} {w : World} {H : Hp} {h : Heap} {a : Addr} {u : HO} (r : Rd H a u) (x : HOk P w H h) : ObjOk P w H h a u := by
  rcases r with r | ⟨o, r⟩
  · exact x a u r
  · obtain ⟨_, q⟩ := x a _ r
    exact q
def Mut : Option HO → Prop
  | some (.lst _) => True
  | some (.dK _) => True
  | some (.dT _) => True
  | some (.set _ _) => True
  | some (.ins _ _ _) => True
  | some (.ext _) => True
  | _ => False
section
variable {P : Program} {w : World} {H : Hp} {h h' : Heap} {x e : Addr} {o' : HO}
theorem HOk.write (ok : HOk P w H h) (mu : Mut (H x)) (he : e = x ∨ H e = some (.own x)) (k : ∀ b u, b ≠ e → h.get? b = some u → h'.get? b = some u) (heo : ∃ u, h'.get? e = some u)
    (new : ObjOk P w (upd H x o') h' x o') : HOk P w (upd H x o') h' := fun b u q => by
  have nown : ∀ c y, H c = some (.own y) → c ≠ x := fun c y r z => by subst z; rw [r] at mu; exact mu
  have ntup : ∀ c xs, H c = some (.tup xs) → c ≠ x := fun c xs r z => by subst z; rw [r] at mu; exact mu
  by_cases hb : b = x
  · subst hb; rw [upd_same] at q; cases q; exact new
  · rw [upd_ne hb] at q
    by_cases hbe : b = e
    · have q' : H b = some (.own x) := by
        rcases he with z | z
        · exact absurd (hbe.trans z) hb
        · rw [hbe]; exact z
      rw [q] at q'; cases q'
      obtain ⟨v, hv⟩ := heo
      exact ⟨v, by rw [hbe]; exact hv⟩
    · refine (ok b u q).stay (fun c v hc r => k c v ?_ r) (fun c r => by rw [upd_ne (nown c b r)]; exact r) fun c xs r => by rw [upd_ne (ntup c xs r)]; exact r
      rcases hc with rfl | hc
      · exact hbe
      · rintro rfl
        rcases he with z | z
        · exact nown c b hc z
        · rw [hc] at z; cases z; exact hb rfl
end

structure Un (fs ex : List Addr) (H H' : Hp) (h h' : Heap) : Prop where
  keep : ∀ b o, h.get? b = some o → H b = none → b ∉ fs → b ∉ ex → h'.get? b = some o
  slot : ∀ b o, h.get? b = some o → H b = none → b ∈ fs → b ∉ ex → ∃ sl, h'.get? b = some { o with slots := sl }
  free : ∀ b o, h.get? b = some o → H b = none → b ∉ ex → H' b = none
  there : ∀ b o, h.get? b = some o → b ∉ ex → ∃ o', h'.get? b = some o'
  tups : ∀ b xs, H b = some (.tup xs) → H' b = some (.tup xs)
  frzs : ∀ b o u, H b = some (.frz o u) → H' b = some (.frz o u)
  tbls : ∀ b ps, H b = some (.tbl ps) → ∃ more, H' b = some (.tbl (ps ++ more))
section
variable {fs fs' ex ex' : List Addr} {H H1 H2 : Hp} {h h1 h2 h' : Heap} {a x e : Addr} {o : HO}
theorem Un.any (u : Un fs ex H H1 h h1) {b : Addr} {ob : Obj} (q : h.get? b = some ob) (n : H b = none) (hx : b ∉ ex) : ∃ sl, h1.get? b = some { ob with slots := sl } := by
  by_cases hb : b ∈ fs
  · exact u.slot b ob q n hb hx
  · exact ⟨ob.slots, u.keep b ob q n hb hx⟩
theorem Un.kept (k : ∀ b u, h.get? b = some u → h'.get? b = some u) : Un fs ex H H h h' :=
  ⟨fun b ob q _ _ _ => k b ob q, fun b ob q _ _ _ => ⟨ob.slots, k b ob q⟩, fun _ _ _ n _ => n, fun b ob q _ => ⟨ob, k b ob q⟩, fun _ _ q => q, fun _ _ _ q => q, fun _ ps q => ⟨#[], by rw [q]; simp⟩⟩
theorem Un.refl : Un fs ex H H h h := Un.kept fun _ _ q => q
theorem Un.laid (k : ∀ b u, h.get? b = some u → h'.get? b = some u) (hp : h.objs.size ≤ a) (hn : H a = none) : Un fs ex H (upd H a o) h h' where
  keep := fun b u q _ _ _ => k b u q
  slot := fun b u q _ _ _ => ⟨u.slots, k b u q⟩
  free := fun b u q n _ => by rw [upd_ne (Nat.ne_of_lt (Nat.lt_of_lt_of_le (Heap.lt_size q) hp))]; exact n
  there := fun b u q _ => ⟨u, k b u q⟩
  tups := fun b xs q => by rw [upd_ne (ne_of_none q hn)]; exact q
  frzs := fun b u xs q => by rw [upd_ne (ne_of_none q hn)]; exact q
  tbls := fun b ps q => ⟨#[], by rw [upd_ne (ne_of_none q hn), q]; simp⟩
theorem Un.write (mu : Mut (H x)) (he : e = x ∨ H e = some (.own x)) (k : ∀ b u, b ≠ e → h.get? b = some u → h'.get? b = some u) (heo : ∃ u, h'.get? e = some u) : Un fs ex H (upd H x o) h h' := by
  have hx : ∀ b, H b = none → b ≠ x := fun b n z => by subst z; rw [n] at mu; exact mu
  have hb : ∀ b, H b = none → b ≠ e := fun b n z => by
    subst z
    rcases he with r | r
    · exact hx b n r
    · rw [n] at r; cases r
  have hm : ∀ b u, H b = some u → ¬ Mut (some u) → b ≠ x := fun b u q nm z => by subst z; rw [q] at mu; exact nm mu
  refine ⟨fun b u q n _ _ => k b u (hb b n) q, fun b u q n _ _ => ⟨u.slots, k b u (hb b n) q⟩, fun b u q n _ => by rw [upd_ne (hx b n)]; exact n, fun b u q _ => ?_,
    fun b xs q => by rw [upd_ne (hm b _ q fun z => z)]; exact q, fun b u xs q => by rw [upd_ne (hm b _ q fun z => z)]; exact q, fun b ps q => ⟨#[], by rw [upd_ne (hm b _ q fun z => z), q]; simp⟩⟩
  by_cases hbe : b = e
  · subst hbe; exact heo
  · exact ⟨u, k b u hbe q⟩
end

def trk (h : Heap) (H : Hp) : List Addr := (List.range h.objs.size).filter fun a => (H a).isSome
def hidT (h : Heap) (H : Hp) : Heap := PySem.W.hideAll h (trk h H)
theorem hidT_size (h : Heap) (H : Hp) : (hidT h H).objs.size = h.objs.size := PySem.W.hideAll_size _ _
theorem hidT_get {h : Heap} {H : Hp} {b : Addr} {o : Obj} (e : h.get? b = some o) (n : H b = none) : (hidT h H).get? b = some o :=
  PySem.W.hideAll_get _ e fun hm => by
    have q : (H b).isSome = true := (List.mem_filter.mp hm).2
    rw [n] at q; simp at q
theorem of_hidT {h : Heap} {H : Hp} {b : Addr} {o : Obj} (e : (hidT h H).get? b = some o) : h.get? b = some o ∧ H b = none := by
  have e' : h.get? b = some o := PySem.W.of_hideAll (trk h H) e
  refine ⟨e', ?_⟩
  cases q : H b with
  | none => rfl
  | some x =>
    have hm : b ∈ trk h H := List.mem_filter.mpr ⟨List.mem_range.mpr (Heap.lt_size e'), by simp [q]⟩
    have z : (hidT h H).get? b = none := PySem.W.hideAll_none (trk h H) hm
    rw [z] at e; cases e

def allNews (g h : Heap) (L : Addr) : List (Addr × Obj) := (List.range h.objs.size).filterMap fun a => if a = L ∨ (g.get? a).isSome = true then none else (h.get? a).map fun o => (a, o)
def rest (g h : Heap) (L d : Addr) : List (Addr × Obj) := (allNews g h L).filter fun p => decide (p.1 ≠ d)
end L2

namespace L2
open PySem PySem.Spec PyProof.Rows

structure Mod (K : PySem.W.Frag) (mg : Str → Option Value) (base : Heap) : Prop where
  kin : K.In base
  glob : base.Ns mainGlobals mg
  blt : ∃ mb, base.Ns builtinsNs mb ∧ ∀ x : Str, x ≠ "__name__" → mb x = bootBuiltins x
  nolimit : base.NoLimit

structure Cx where
  prog : Program
  w : World
  K : PySem.W.Frag
  mg : Str → Option Value
  base : Heap
  A : Around
  N : List Str
  s₀ : Shared
  H₀ : Hp
  env : Env
  outer : List Env
  stack : List Env
  ex : List Addr
  fn : Str → Bool
  calm : Bool
  pn : List (Addr × Obj)
  xe : Value → Shared → Prop
def frs (l : List Env) : List Addr := l.filterMap (·.frame)
abbrev Cx.fs (X : Cx) : List Addr := frs X.outer

def Vis (sc : Scope) (x : Str) : Prop := sc.names.lookup x = some .local ∨ sc.names.lookup x = some .cell ∨ sc.names.lookup x = some .free
def Loc (sc : Scope) (x : Str) : Prop := sc.names.lookup x = some .local ∨ sc.names.lookup x = some .cell
def Look (env : Env) (h : Heap) (m : Str → Option Value) (x : Str) (u : Value) : Prop :=
  (env.kindOf x = some .local ∧ m x = some u) ∨ ((env.kindOf x = some .cell ∨ env.kindOf x = some .free) ∧ ∃ c, env.cells.lookup x = some c ∧ h.IsCell c (some u))

structure Cx.Ok (X : Cx) : Prop where
  mod : Mod X.K X.mg X.base
  kind : X.env.scope.kind = .function
  glob : X.env.globals = mainGlobals
  blt : X.env.builtins = builtinsNs
  above : X.s₀.heap.objs.size ≤ X.env.locals
  inj : ∀ x y c, X.env.cells.lookup x = some c → X.env.cells.lookup y = some c → x = y
  has : ∀ x, (X.env.kindOf x = some .cell ∨ X.env.kindOf x = some .free) → ∃ c, X.env.cells.lookup x = some c
  cab : ∀ x c, X.fn x = true → X.env.cells.lookup x = some c → X.s₀.heap.objs.size ≤ c
  hd : X.calm = true → X.A.handled = none
  frames : X.A.frames = some X.stack
  stk : X.stack = X.outer ∨ (X.stack = X.env :: X.outer ∧ X.env.frame = some X.env.locals)
  exf : ∀ b ∈ X.ex, b ≠ X.env.locals ∧ ∀ x c, X.env.cells.lookup x = some c → c ≠ b
  bs : ∀ b o, X.base.get? b = some o → X.s₀.heap.get? b = some o ∧ X.H₀ b = none
  bsz : X.base.objs.size ≤ X.s₀.heap.objs.size
  noex : ∀ b o, X.base.get? b = some o → b ∉ X.ex
  exfs : ∀ b ∈ X.ex, b ∉ X.fs
  funs : X.s₀.heap.FunFrames X.base X.outer
  frf : ∀ b ∈ X.fs, X.H₀ b = none

structure Inv (X : Cx) (pins : List (Addr × Obj)) (σ : List (Option V)) (H : Hp) (s : Shared) : Prop where
  ok : X.Ok
  os : s.os = X.s₀.os
  bare : AllBare s.gens
  base : Un X.fs X.ex X.H₀ H X.s₀.heap s.heap
  loc : ∃ m, s.heap.Ns X.env.locals m ∧ ∀ (i : Nat) (x : Str) (v : V), X.N[i]? = some x → σ[i]? = some (some v) → Vis X.env.scope x → ∃ u, RelV v u ∧ Look X.env s.heap m x u
  cell : ∀ x c, X.env.cells.lookup x = some c → ∃ v, s.heap.IsCell c v
  free : H X.env.locals = none
  freeC : ∀ x c, X.env.cells.lookup x = some c → H c = none
  pin : ∀ p ∈ X.pn ++ pins, s.heap.get? p.1 = some p.2 ∧ H p.1 = none ∧ p.1 ≠ X.env.locals ∧ p.1 ∉ X.fs ∧ ∀ v, p.2.data ≠ .cell v
  hok : HOk X.prog X.w H s.heap
  len : σ.length = X.N.length

section
variable {X : Cx} {pins : List (Addr × Obj)} {σ : List (Option V)} {H H' : Hp} {s : Shared} {h' : Heap}

theorem Cx.Ok.nofr (ok : X.Ok) {b : Addr} {o : Obj} (e : X.base.get? b = some o) : b ∉ X.fs := fun hb => by
  have := (ok.funs.mem hb).1
  rw [e] at this; cases this
theorem Inv.bs (I : Inv X pins σ H s) : ∀ b o, X.base.get? b = some o → s.heap.get? b = some o ∧ H b = none := fun b o e =>
  ⟨I.base.keep b o (I.ok.bs b o e).1 (I.ok.bs b o e).2 (I.ok.nofr e) (I.ok.noex b o e), I.base.free b o (I.ok.bs b o e).1 (I.ok.bs b o e).2 (I.ok.noex b o e)⟩
theorem Inv.bk (I : Inv X pins σ H s) : ∀ b o, X.base.get? b = some o → s.heap.get? b = some o := fun b o e => (I.bs b o e).1
theorem Inv.mod (I : Inv X pins σ H s) : Mod X.K X.mg X.base := I.ok.mod
theorem Inv.kIn (I : Inv X pins σ H s) : X.K.In s.heap := I.ok.mod.kin.keeps I.bk
theorem Inv.lt (I : Inv X pins σ H s) : X.env.locals < s.heap.objs.size := let ⟨_, hn, _⟩ := I.loc; hn.lt
theorem Inv.sz (I : Inv X pins σ H s) : X.s₀.heap.objs.size ≤ s.heap.objs.size := Nat.le_trans I.ok.above (Nat.le_of_lt I.lt)
theorem Inv.nofs (I : Inv X pins σ H s) {a : Addr} (h : s.heap.objs.size ≤ a) : a ∉ X.fs := fun hb => by
  obtain ⟨_, o, ho, _⟩ := I.ok.funs.mem hb
  exact absurd (Nat.lt_of_lt_of_le (Heap.lt_size ho) (Nat.le_trans I.sz h)) (Nat.lt_irrefl _)
theorem Inv.cne (I : Inv X pins σ H s) : ∀ x c, X.env.cells.lookup x = some c → c ≠ X.env.locals := fun x c e z => by
  obtain ⟨v, o, ho, hd⟩ := I.cell x c e
  obtain ⟨m, ⟨o', es, ep, ho', hd', _⟩, _⟩ := I.loc
  rw [z, ho'] at ho; cases ho; rw [hd'] at hd; cases hd
theorem Inv.funs (I : Inv X pins σ H s) : s.heap.FunFrames X.base X.outer := by
  have all : ∀ (l : List Env), (∀ b ∈ frs l, b ∈ X.fs) → X.s₀.heap.FunFrames X.base l → s.heap.FunFrames X.base l := by
    intro l
    induction l with
    | nil => intro _ _; trivial
    | cons env r ih =>
      intro hs hl
      obtain ⟨hk, ⟨L, o, hf, hn, ho, hd⟩, hr⟩ := hl
      have hL : L ∈ X.fs := hs L (by unfold frs; rw [List.filterMap_cons, hf]; exact List.mem_cons_self)
      obtain ⟨sl, e⟩ := I.base.slot L o ho (I.ok.frf L hL) hL fun z => I.ok.exfs L z hL
      exact ⟨hk, ⟨L, _, hf, hn, e, hd⟩, ih (fun b hb => hs b (by unfold frs; rw [List.filterMap_cons, hf]; exact List.mem_cons_of_mem _ hb)) hr⟩
  exact all X.outer (fun _ hb => hb) I.ok.funs

theorem Inv.stack (I : Inv X pins σ H s) : s.heap.FunFrames X.base X.stack := by
  rcases I.ok.stk with e | ⟨e, hf⟩
  · rw [e]; exact I.funs
  · rw [e]
    obtain ⟨m, hn, _⟩ := I.loc
    refine .cons (by rw [I.ok.kind]; decide) hf hn ?_ I.funs
    exact Heap.get?_none_of_le (Nat.le_trans I.ok.bsz I.ok.above)
theorem Inv.stkSub (I : Inv X pins σ H s) : ∀ b ∈ frs X.stack, b ∈ X.env.locals :: X.fs := fun b hb => by
  rcases I.ok.stk with e | ⟨e, hf⟩
  · rw [e] at hb; exact List.mem_cons_of_mem _ hb
  · rw [e] at hb
    unfold frs at hb
    rw [List.filterMap_cons, hf] at hb
    exact hb
theorem Inv.stkFree (I : Inv X pins σ H s) : ∀ b ∈ frs X.stack, H b = none := fun b hb => by
  rcases List.mem_cons.mp (I.stkSub b hb) with e | hb
  · rw [e]; exact I.free
  · obtain ⟨_, o, ho, _⟩ := I.ok.funs.mem hb
    exact I.base.free b o ho (I.ok.frf b hb) fun z => I.ok.exfs b z hb

theorem Inv.step {g' : Array GenState} {t' : Nat} {d' : Drawn} {ch : List Addr} (I : Inv X pins σ H s)
    (hch : ∀ b ∈ ch, (b ∈ X.ex ∨ X.s₀.heap.objs.size ≤ b) ∧ b ≠ X.env.locals ∧ (∀ x c, X.env.cells.lookup x = some c → c ≠ b) ∧ ∀ p ∈ X.pn ++ pins, p.1 ≠ b)
    (keep : ∀ b o, b ≠ X.env.locals → b ∉ X.fs → b ∉ ch → s.heap.get? b = some o → H b = none → h'.get? b = some o)
    (slot : ∀ b o, b ≠ X.env.locals → b ∈ X.fs → b ∉ ch → s.heap.get? b = some o → H b = none → ∃ sl, h'.get? b = some { o with slots := sl }) (free : ∀ b o, b ∉ ch → s.heap.get? b = some o → H b = none → H' b = none)
    (there : ∀ b o, b ∉ ch → s.heap.get? b = some o → ∃ o', h'.get? b = some o')
    (tups : ∀ b xs, H b = some (.tup xs) → H' b = some (.tup xs)) (frzs : ∀ b o u, H b = some (.frz o u) → H' b = some (.frz o u)) (tbls : ∀ b ps, H b = some (.tbl ps) → ∃ more, H' b = some (.tbl (ps ++ more)))
    (ns : ∀ m, s.heap.Ns X.env.locals m → h'.Ns X.env.locals m) (hok : HOk X.prog X.w H' h') (hg : AllBare g') :
    Inv X pins σ H' { s with heap := h', gens := g', drawn := d', toks := t' } := by
  have neL : ∀ b o, X.s₀.heap.get? b = some o → b ≠ X.env.locals := fun b o e => Nat.ne_of_lt (Nat.lt_of_lt_of_le (Heap.lt_size e) I.ok.above)
  have neC : ∀ b o, X.s₀.heap.get? b = some o → b ∉ X.ex → b ∉ ch := fun b o e hx hb => by
    rcases (hch b hb).1 with z | z
    · exact hx z
    · exact absurd (Nat.lt_of_lt_of_le (Heap.lt_size e) z) (Nat.lt_irrefl _)
  have cellK : ∀ x c, X.env.cells.lookup x = some c → ∀ v, s.heap.IsCell c v → h'.IsCell c v := fun x c e v ⟨o, ho, hd⟩ => by
    have nch : c ∉ ch := fun z => (hch c z).2.2.1 x c e rfl
    by_cases hc : c ∈ X.fs
    · obtain ⟨sl, q⟩ := slot c o (I.cne x c e) hc nch ho (I.freeC x c e)
      exact ⟨_, q, hd⟩
    · exact ⟨o, keep c o (I.cne x c e) hc nch ho (I.freeC x c e), hd⟩
  refine ⟨I.ok, I.os, hg, ⟨fun b o e n hb hx => ?_, fun b o e n hb hx => ?_, fun b o e n hx => ?_, fun b o e hx => ?_, fun b xs e => tups b xs (I.base.tups b xs e), fun b o xs e => frzs b o xs (I.base.frzs b o xs e), fun b ps e => ?_⟩, ?_, fun x c e => ?_, ?_, fun x c e => ?_, fun p hp => ?_, hok, I.len⟩
  · exact keep b o (neL b o e) hb (neC b o e hx) (I.base.keep b o e n hb hx) (I.base.free b o e n hx)
  · obtain ⟨sl, e1⟩ := I.base.slot b o e n hb hx
    obtain ⟨sl', e2⟩ := slot b _ (neL b o e) hb (neC b o e hx) e1 (I.base.free b o e n hx)
    exact ⟨sl', e2⟩
  · obtain ⟨o', e1⟩ := I.base.there b o e hx
    exact free b o' (neC b o e hx) e1 (I.base.free b o e n hx)
  · obtain ⟨o', e1⟩ := I.base.there b o e hx
    exact there b o' (neC b o e hx) e1
  · obtain ⟨m1, e1⟩ := I.base.tbls b ps e
    obtain ⟨m2, e2⟩ := tbls b _ e1
    exact ⟨m1 ++ m2, by rw [e2, Array.append_assoc]⟩
  · obtain ⟨m, hn, hl⟩ := I.loc
    refine ⟨m, ns m hn, fun i x v e1 e2 e3 => ?_⟩
    obtain ⟨u, r, l⟩ := hl i x v e1 e2 e3
    refine ⟨u, r, ?_⟩
    rcases l with l | ⟨k, c, e, z⟩
    · exact .inl l
    · exact .inr ⟨k, c, e, cellK x c e _ z⟩
  · obtain ⟨v, z⟩ := I.cell x c e
    exact ⟨v, cellK x c e v z⟩
  · obtain ⟨m, ⟨o, _, _, ho, _⟩, _⟩ := I.loc
    exact free _ o (fun z => (hch _ z).2.1 rfl) ho I.free
  · obtain ⟨v, o, ho, hd⟩ := I.cell x c e
    exact free c o (fun z => (hch c z).2.2.1 x c e rfl) ho (I.freeC x c e)
  · obtain ⟨e, n, ne, nf, d⟩ := I.pin p hp
    have nch : p.1 ∉ ch := fun z => (hch p.1 z).2.2.2 p hp rfl
    exact ⟨keep p.1 p.2 ne nf nch e n, free p.1 p.2 nch e n, ne, nf, d⟩
theorem Inv.un {t' : Nat} (I : Inv X pins σ H s) (u : Un X.fs [] H H' s.heap h') (hok : HOk X.prog X.w H' h') : Inv X pins σ H' { s with heap := h', toks := t' } := by
  obtain ⟨m, ⟨o, es, ep, ho, r⟩, _⟩ := id I.loc
  obtain ⟨sl, hL⟩ := u.any ho I.free (by simp)
  exact I.step (g' := s.gens) (d' := s.drawn) (ch := []) (fun _ z => nomatch z) (fun b o _ hb _ e n => u.keep b o e n hb (by simp)) (fun b o _ hb _ e n => u.slot b o e n hb (by simp)) (fun b o _ e n => u.free b o e n (by simp)) (fun b o _ e => u.there b o e (by simp)) u.tups u.frzs u.tbls (fun m' hm => by
    obtain ⟨o', es', ep', ho', r'⟩ := hm
    rw [ho] at ho'; cases ho'
    exact ⟨_, es', ep', hL, r'⟩) hok I.bare
theorem Inv.call {g' : Array GenState} {t' : Nat} {d' : Drawn} {ch : List Addr} (I : Inv X pins σ H s) (u : Un (frs X.stack) ch H H' s.heap h') (hok : HOk X.prog X.w H' h') (hg : AllBare g')
    (hch : ∀ b ∈ ch, (b ∈ X.ex ∨ X.s₀.heap.objs.size ≤ b) ∧ b ≠ X.env.locals ∧ (∀ x c, X.env.cells.lookup x = some c → c ≠ b) ∧ ∀ p ∈ X.pn ++ pins, p.1 ≠ b) :
    Inv X pins σ H' { s with heap := h', gens := g', drawn := d', toks := t' } := by
  obtain ⟨m, ⟨o, es, ep, ho, r⟩, _⟩ := id I.loc
  obtain ⟨sl, hL⟩ := u.any ho I.free fun z => (hch _ z).2.1 rfl
  exact I.step (ch := ch) hch (fun b o hL hb hc e n => u.keep b o e n (fun z => (List.mem_cons.mp (I.stkSub b z)).elim hL hb) hc) (fun b o _ _ hc e n => u.any e n hc) (fun b o hc e n => u.free b o e n hc) (fun b o hc e => u.there b o e hc) u.tups u.frzs u.tbls (fun m' hm => by
    obtain ⟨o', es', ep', ho', r'⟩ := hm
    rw [ho] at ho'; cases ho'
    exact ⟨_, es', ep', hL, r'⟩) hok hg
theorem Inv.turned {t' : Nat} {it : Addr} (I : Inv X pins σ H s) (k : ∀ b o, b ≠ it → s.heap.get? b = some o → h'.get? b = some o) (hn : H it = none) (hL : it ≠ X.env.locals)
    (h1 : it ∈ X.ex ∨ X.s₀.heap.objs.size ≤ it) (h2 : ∀ x c, X.env.cells.lookup x = some c → c ≠ it) (h3 : ∀ p ∈ X.pn ++ pins, p.1 ≠ it) : Inv X pins σ H { s with heap := h', toks := t' } := by
  have nit : ∀ b u, H b = some u → b ≠ it := fun b u e z => by rw [z, hn] at e; cases e
  refine I.step (g' := s.gens) (d' := s.drawn) (ch := [it]) (fun b hb => ?_) (fun b o _ _ hc e _ => k b o (fun z => hc (by simp [z])) e) (fun b o _ _ hc e _ => ⟨o.slots, k b o (fun z => hc (by simp [z])) e⟩) (fun _ _ _ _ n => n)
    (fun b o hc e => ⟨o, k b o (fun z => hc (by simp [z])) e⟩) (fun _ _ e => e) (fun _ _ _ e => e) (fun b ps e => ⟨#[], by rw [e]; simp⟩) (fun m hm => ?_) (fun b u e => ?_) I.bare
  · have e : b = it := by simpa using hb
    subst e
    exact ⟨h1, hL, h2, h3⟩
  · obtain ⟨o, es, ep, ho, r⟩ := hm
    exact ⟨o, es, ep, k _ o (Ne.symm hL) ho, r⟩
  · refine (I.hok b u e).stay (fun c v hc q => k c v ?_ q) (fun _ q => q) fun _ _ q => q
    rcases hc with z | z
    · rw [z]; exact nit b u e
    · exact nit c _ z
theorem Inv.tok (I : Inv X pins σ H s) (t : Nat) : Inv X pins σ H { s with toks := t } := I.un (h' := s.heap) (t' := t) Un.refl I.hok
theorem Inv.kept {t' : Nat} (I : Inv X pins σ H s) (k : ∀ b u, s.heap.get? b = some u → h'.get? b = some u) : Inv X pins σ H { s with heap := h', toks := t' } := I.un (Un.kept k) (I.hok.kept k)
theorem Inv.laid {a : Addr} {o : HO} {t' : Nat} (I : Inv X pins σ H s) (k : ∀ b u, s.heap.get? b = some u → h'.get? b = some u) (hp : s.heap.objs.size ≤ a) (new : ObjOk X.prog X.w (upd H a o) h' a o) :
    Inv X pins σ (upd H a o) { s with heap := h', toks := t' } := I.un (Un.laid k hp (I.hok.fresh hp)) (I.hok.laid k hp new)
theorem Inv.write {x e : Addr} {o : HO} {t' : Nat} (I : Inv X pins σ H s) (mu : Mut (H x)) (he : e = x ∨ H e = some (.own x)) (k : ∀ b u, b ≠ e → s.heap.get? b = some u → h'.get? b = some u) (heo : ∃ u, h'.get? e = some u)
    (new : ObjOk X.prog X.w (upd H x o) h' x o) : Inv X pins σ (upd H x o) { s with heap := h', toks := t' } := I.un (Un.write mu he k heo) (I.hok.write mu he k heo new)
theorem Inv.pins_of {pins' : List (Addr × Obj)} (I : Inv X pins σ H s) (h : ∀ p ∈ pins', s.heap.get? p.1 = some p.2 ∧ H p.1 = none ∧ p.1 ≠ X.env.locals ∧ p.1 ∉ X.fs ∧ ∀ v, p.2.data ≠ .cell v) : Inv X pins' σ H s :=
  ⟨I.ok, I.os, I.bare, I.base, I.loc, I.cell, I.free, I.freeC, fun p hp => (List.mem_append.mp hp).elim (fun z => I.pin p (List.mem_append_left _ z)) (h p), I.hok, I.len⟩

theorem nodup_ix {N : List Str} (hN : N.Nodup) {i j : Nat} {x : Str} (a : N[i]? = some x) (b : N[j]? = some x) : i = j := by
  obtain ⟨h1, e1⟩ := List.getElem?_eq_some_iff.mp a
  obtain ⟨h2, e2⟩ := List.getElem?_eq_some_iff.mp b
  exact (List.getElem_inj hN).mp (e1.trans e2.symm)

theorem store_ok2 {M : Model} {A : Around} {E : Value → Shared → Prop} {i : Nat} {x : Str} {v : V} {u : Value} {Q : Unit → Shared → Prop} (I : Inv X pins σ H s) (hN : X.N.Nodup) (hi : X.N[i]? = some x) (hx : Loc X.env.scope x) (r : RelV v u)
    (h : ∀ s', Inv X pins (σ.set i (some v)) H s' → (∃ a, Heap.SameBut a s.heap s'.heap ∧ (a = X.env.locals ∨ X.env.cells.lookup x = some a)) → Q () s') (hf : X.fn x = true ∨ X.env.scope.names.lookup x = some .local := by first | exact .inl rfl | exact .inr rfl | assumption) : wpAny M A (storeName X.env x u) Q E s := by
  obtain ⟨m, hn, hl⟩ := id I.loc
  have hcls : (X.env.scope.kind == .class || (X.env.scope.kind == .module && X.env.locals != X.env.globals)) = false := by rw [I.ok.kind]; rfl
  have hiσ : i < σ.length := by rw [I.len]; exact (List.getElem?_eq_some_iff.mp hi).1
  have cne := I.cne
  have tracked : ∀ {a : Addr} {h' : Heap}, (∃ o, s.heap.get? a = some o ∧ H a = none) → Heap.SameBut a s.heap h' → HOk X.prog X.w H h' := fun {a h'} ha hs b ob e => by
    obtain ⟨_, _, hfree⟩ := ha
    refine (I.hok b ob e).stay (fun c w' hc q => (hs.2 c ?_).trans q) (fun _ q => q) fun _ _ q => q
    rintro rfl
    rcases hc with rfl | hc
    · rw [hfree] at e; cases e
    · rw [hfree] at hc; cases hc
  rcases hx with hk | hk
  · refine wpAny_storeName_local hk hn (fun h' hn' hs => ?_) hcls
    obtain ⟨oL, _, _, hoL, _⟩ := id hn
    refine h _ ⟨I.ok, I.os, I.bare, ⟨fun b o e n hb hx => ?_, fun b o e n hb hx => ?_, I.base.free, fun b o e hx => ?_, I.base.tups, I.base.frzs, I.base.tbls⟩, ⟨_, hn', fun j y v' e1 e2 e3 => ?_⟩, fun y c e => ?_, I.free, I.freeC, fun p hp => ?_, tracked ⟨oL, hoL, I.free⟩ hs, by simpa using I.len⟩ ⟨_, hs, .inl rfl⟩
    · exact (hs.2 b (Nat.ne_of_lt (Nat.lt_of_lt_of_le (Heap.lt_size e) I.ok.above))).trans (I.base.keep b o e n hb hx)
    · obtain ⟨sl, e1⟩ := I.base.slot b o e n hb hx
      exact ⟨sl, (hs.2 b (Nat.ne_of_lt (Nat.lt_of_lt_of_le (Heap.lt_size e) I.ok.above))).trans e1⟩
    · obtain ⟨o', e1⟩ := I.base.there b o e hx
      exact ⟨o', (hs.2 b (Nat.ne_of_lt (Nat.lt_of_lt_of_le (Heap.lt_size e) I.ok.above))).trans e1⟩
    · by_cases hj : j = i
      · subst hj
        rw [hi] at e1; cases e1
        rw [List.getElem?_set_self hiσ] at e2
        cases e2
        exact ⟨u, r, .inl ⟨hk, by simp⟩⟩
      · rw [List.getElem?_set_ne (Ne.symm hj)] at e2
        obtain ⟨u', r', q⟩ := hl j y v' e1 e2 e3
        refine ⟨u', r', ?_⟩
        rcases q with ⟨k, e⟩ | ⟨k, c, e, z⟩
        · refine .inl ⟨k, ?_⟩
          have : y ≠ x := fun e => hj (nodup_ix hN e1 (e ▸ hi))
          simp [this, e]
        · exact .inr ⟨k, c, e, z.sameBut hs (cne y c e)⟩
    · obtain ⟨w', z⟩ := I.cell y c e
      exact ⟨w', z.sameBut hs (cne y c e)⟩
    · obtain ⟨e, n, ne, nf, d⟩ := I.pin p hp
      exact ⟨(hs.2 p.1 ne).trans e, n, ne, nf, d⟩
  · have hfn : X.fn x = true := by
      rcases hf with z | z
      · exact z
      · rw [z] at hk; cases hk
    obtain ⟨c, hc⟩ := I.ok.has x (.inl hk)
    obtain ⟨w', z⟩ := I.cell x c hc
    refine wpAny_storeName_cell I.ok.kind hk hc z (fun h' hc' hs => ?_)
    obtain ⟨oc, hoc, hocd⟩ := id z
    refine h { s with heap := h' } ⟨I.ok, I.os, I.bare, ⟨fun b o e n hb hx => ?_, fun b o e n hb hx => ?_, I.base.free, fun b o e hx => ?_, I.base.tups, I.base.frzs, I.base.tbls⟩, ⟨m, hn.sameBut hs (Ne.symm (cne x c hc)), fun j y v' e1 e2 e3 => ?_⟩, fun y c' e => ?_, I.free, I.freeC, fun p hp => ?_, tracked ⟨oc, hoc, I.freeC x c hc⟩ hs, by simpa using I.len⟩ ⟨c, hs, .inr hc⟩
    · exact (hs.2 b (Nat.ne_of_lt (Nat.lt_of_lt_of_le (Heap.lt_size e) (I.ok.cab x c hfn hc)))).trans (I.base.keep b o e n hb hx)
    · obtain ⟨sl, e1⟩ := I.base.slot b o e n hb hx
      exact ⟨sl, (hs.2 b (Nat.ne_of_lt (Nat.lt_of_lt_of_le (Heap.lt_size e) (I.ok.cab x c hfn hc)))).trans e1⟩
    · obtain ⟨o', e1⟩ := I.base.there b o e hx
      exact ⟨o', (hs.2 b (Nat.ne_of_lt (Nat.lt_of_lt_of_le (Heap.lt_size e) (I.ok.cab x c hfn hc)))).trans e1⟩
    · by_cases hj : j = i
      · subst hj
        rw [hi] at e1; cases e1
        rw [List.getElem?_set_self hiσ] at e2
        cases e2
        exact ⟨u, r, .inr ⟨.inl hk, c, hc, hc'⟩⟩
      · rw [List.getElem?_set_ne (Ne.symm hj)] at e2
        obtain ⟨u', r', q⟩ := hl j y v' e1 e2 e3
        refine ⟨u', r', ?_⟩
        rcases q with q | ⟨k, c', e, z'⟩
        · exact .inl q
        · refine .inr ⟨k, c', e, z'.sameBut hs ?_⟩
          rintro rfl
          exact hj (nodup_ix hN e1 (I.ok.inj _ _ _ e hc ▸ hi))
    · by_cases hcc : c' = c
      · subst hcc; exact ⟨_, hc'⟩
      · obtain ⟨w2, z2⟩ := I.cell y c' e
        exact ⟨w2, z2.sameBut hs hcc⟩
    · obtain ⟨e, n, ne, nf, d⟩ := I.pin p hp
      refine ⟨(hs.2 p.1 ?_).trans e, n, ne, nf, d⟩
      intro q
      rw [q, hoc] at e
      have q' : oc = p.2 := Option.some.inj e
      exact d w' (by rw [← q']; exact hocd)
theorem store_ok {M : Model} {A : Around} {E : Value → Shared → Prop} {i : Nat} {x : Str} {v : V} {u : Value} {Q : Unit → Shared → Prop} (I : Inv X pins σ H s) (hN : X.N.Nodup) (hi : X.N[i]? = some x) (hx : Loc X.env.scope x) (r : RelV v u)
    (h : ∀ s', Inv X pins (σ.set i (some v)) H s' → Q () s') (hf : X.fn x = true ∨ X.env.scope.names.lookup x = some .local := by first | exact .inl rfl | exact .inr rfl | assumption) : wpAny M A (storeName X.env x u) Q E s :=
  store_ok2 I hN hi hx r (fun s' I' _ => h s' I') hf
theorem Inv.call' {s' : Shared} {ch : List Addr} (I : Inv X pins σ H s) (ho : s'.os = s.os) (u : Un (frs X.stack) ch H H' s.heap s'.heap) (hok : HOk X.prog X.w H' s'.heap) (hg : AllBare s'.gens)
    (hch : ∀ b ∈ ch, (b ∈ X.ex ∨ X.s₀.heap.objs.size ≤ b) ∧ b ≠ X.env.locals ∧ (∀ x c, X.env.cells.lookup x = some c → c ≠ b) ∧ ∀ p ∈ X.pn ++ pins, p.1 ≠ b) : Inv X pins σ H' s' := by
  obtain ⟨h', g', d', t', o'⟩ := s'
  have e : o' = s.os := ho
  subst e
  exact I.call (g' := g') (t' := t') (d' := d') u hok hg hch
end

abbrev XK := Value → Option Addr → Hp → Prop
abbrev St := List (Option V)
abbrev VK := V → Hp → Prop
abbrev TE := St → Hp → VK → Prop
abbrev TT := St → Hp → (Bool → Hp → Prop) → Prop
abbrev TA := St → Hp → (List V → Hp → Prop) → Prop
structure Ends where
  nx : St → Hp → Prop
  rt : VK
  bk : St → Hp → Prop := fun _ _ => False
  ct : St → Hp → Prop := fun _ _ => False
abbrev TS := Ends → St → Hp → Prop

def EP (X : Cx) (pins : List (Addr × Obj)) (σ : St) (Q : VK) (u : Value) (s' : Shared) : Prop := ∃ v H', Inv X pins σ H' s' ∧ RelV v u ∧ Q v H'
def TP (X : Cx) (pins : List (Addr × Obj)) (σ : St) (Q : Bool → Hp → Prop) (b : Bool) (s' : Shared) : Prop := ∃ H', Inv X pins σ H' s' ∧ Q b H'
def AP (X : Cx) (pins : List (Addr × Obj)) (σ : St) (Q : List V → Hp → Prop) (us : List Value) (s' : Shared) : Prop := ∃ vs H', Inv X pins σ H' s' ∧ Vals vs us ∧ Q vs H'
def SP (X : Cx) (pins : List (Addr × Obj)) (D : Ends) (f : Flow) (s' : Shared) : Prop :=
  match f with
  | .next => ∃ σ' H', Inv X pins σ' H' s' ∧ D.nx σ' H'
  | .brk => ∃ σ' H', Inv X pins σ' H' s' ∧ D.bk σ' H'
  | .cont => ∃ σ' H', Inv X pins σ' H' s' ∧ D.ct σ' H'
  | .ret u => ∃ v σ' H', Inv X pins σ' H' s' ∧ RelV v u ∧ D.rt v H'

def PE (X : Cx) (e : Expr) (t : TE) : Prop :=
  ∀ (pins : List (Addr × Obj)) (s : Shared) (σ : St) (H : Hp) (Q : VK), Inv X pins σ H s → t σ H Q → wpAny (model X.prog X.w) X.A (eval e X.env) (EP X pins σ Q) X.xe s
def PT (X : Cx) (e : Expr) (t : TT) : Prop :=
  ∀ (pins : List (Addr × Obj)) (s : Shared) (σ : St) (H : Hp) (Q : Bool → Hp → Prop), Inv X pins σ H s → t σ H Q → wpAny (model X.prog X.w) X.A (isTrue e X.env (eval e X.env)) (TP X pins σ Q) X.xe s
def PW (X : Cx) (e : Expr) (t : TT) : Prop :=
  ∀ (whole : Sem Value) (pins : List (Addr × Obj)) (s : Shared) (σ : St) (H : Hp) (Q : Bool → Hp → Prop), Inv X pins σ H s → t σ H Q → wpAny (model X.prog X.w) X.A (isTrue e X.env whole) (TP X pins σ Q) X.xe s
theorem PW.pt {X : Cx} {e : Expr} {t : TT} (h : PW X e t) : PT X e t := h _
def PA (X : Cx) (es : List Expr) (t : TA) : Prop :=
  ∀ (pos : Pos) (pins : List (Addr × Obj)) (s : Shared) (σ : St) (H : Hp) (Q : List V → Hp → Prop), Inv X pins σ H s → t σ H Q → wpAny (model X.prog X.w) X.A (spliced (backTo pos (starEach es X.env))) (AP X pins σ Q) X.xe s
def PS (X : Cx) (st : Stmt) (t : TS) : Prop :=
  ∀ (pins : List (Addr × Obj)) (s : Shared) (σ : St) (H : Hp) (D : Ends), Inv X pins σ H s → t D σ H → wpAny (model X.prog X.w) X.A (exec st X.env) (SP X pins D) X.xe s
def PSs (X : Cx) (st : List Stmt) (t : TS) : Prop :=
  ∀ (pins : List (Addr × Obj)) (s : Shared) (σ : St) (H : Hp) (D : Ends), Inv X pins σ H s → t D σ H → wpAny (model X.prog X.w) X.A (execs st X.env) (SP X pins D) X.xe s
theorem thn {α : Type} {t : Sem α} {Q Q' : α → Shared → Prop} {M : Model} {A : Around} {E : Value → Shared → Prop} {s : Shared} (h : wpAny M A t Q E s) (hQ : ∀ a s, Q a s → Q' a s) : wpAny M A t Q' E s := wpAny_mono h hQ fun _ _ x => x
end L2

namespace L2
open PySem PySem.Spec PyProof.Rows
section
variable {X : Cx}

theorem bin {a b : Expr} {ta tb : TE} (ha : PE X a ta) (hb : PE X b tb) {pins : List (Addr × Obj)} {s : Shared} {σ : St} {H : Hp} {R : V → V → Hp → Prop} (I : Inv X pins σ H s) (h : ta σ H fun x H1 => tb σ H1 fun y H2 => R x y H2)
    {α : Type} {Q : α → Shared → Prop} {f : Value → Value → Sem α}
    (hf : ∀ v u s2 x y H2, Inv X pins σ H2 s2 → RelV x v → RelV y u → R x y H2 → wpAny (model X.prog X.w) X.A (f v u) Q X.xe s2) :
    wpAny (model X.prog X.w) X.A (eval a X.env) (fun v s₁ => wpAny (model X.prog X.w) X.A (eval b X.env) (fun u s₂ => wpAny (model X.prog X.w) X.A (f v u) Q X.xe s₂) X.xe s₁) X.xe s := by
  refine thn (ha pins s σ H _ I h) fun v s1 ⟨x, H1, I1, r1, q1⟩ => ?_
  refine thn (hb pins s1 σ H1 _ I1 q1) fun u s2 ⟨y, H2, I2, r2, q2⟩ => ?_
  exact hf v u s2 x y H2 I2 r1 r2 q2

def tVar (i : Nat) : TE := fun σ H Q => ∃ v, σ[i]? = some (some v) ∧ Q v H
def tC (v : V) : TE := fun _ H Q => Q v H
theorem pe_var {i : Nat} {x : Str} {pos : Pos} (hN : X.N[i]? = some x) (hv : Vis X.env.scope x) (hd : (x == ("__debug__" : Str)) = false := by decide) (hcd : (x == ("__classdict__" : Str)) = false := by decide) : PE X (.Name x pos) (tVar i) := by
  intro pins s σ H Q I h
  obtain ⟨v, e, h⟩ := h
  obtain ⟨m, hn, hl⟩ := I.loc
  obtain ⟨u, r, l⟩ := hl i x v hN e hv
  have fin : EP X pins σ Q u s := ⟨v, H, I, r, h⟩
  rcases l with ⟨hk, hm⟩ | ⟨hk, c, hc, hcell⟩
  · exact wpAny_Name (wpAny_loadName_local I.ok.kind hk hn hm fin) hd
  · rcases hk with hk | hk
    · exact wpAny_Name (wpAny_loadName_cell I.ok.kind hk hc hcell fin) hd
    · exact wpAny_Name (wpAny_loadName_free I.ok.kind hk hc hcell fin hcd) hd
theorem pe_int {i j pos} : PE X (.Constant (.int i) j pos) (tC (.int i)) := fun _ _ _ H _ I h => wpAny_Constant_int ⟨.int i, H, I.tok _, ⟨_, rfl⟩, h⟩
theorem pe_bl {b j pos} : PE X (.Constant (.bool b) j pos) (tC (.bl b)) := fun _ _ _ H _ I h => Constant_bool ⟨.bl b, H, I, rfl, h⟩
theorem pe_non {j pos} : PE X (.Constant .none j pos) (tC .non) := fun _ _ _ H _ I h => Constant_none ⟨.non, H, I, rfl, h⟩

def Gl (X : Cx) (x : Str) : Prop := X.env.kindOf x = some .globalImplicit
theorem ld_glob {E : Value → Shared → Prop} {pins : List (Addr × Obj)} {s : Shared} {σ : St} {H : Hp} {x : Str} {u : Value} {pos : Pos} {Q : Value → Shared → Prop} (I : Inv X pins σ H s) (hg : Gl X x) (hm : X.mg x = some u) (h : Q u s)
    (hd : (x == ("__debug__" : Str)) = false := by decide) : wpAny (model X.prog X.w) X.A (eval (.Name x pos) X.env) Q E s :=
  Calls.Name_function_global I.ok.kind hg (Calls.loadGlobal_global (by rw [I.ok.glob]; exact I.mod.glob.keeps I.bk) hm h) hd
theorem ld_blt {E : Value → Shared → Prop} {pins : List (Addr × Obj)} {s : Shared} {σ : St} {H : Hp} {x : Str} {u : Value} {pos : Pos} {Q : Value → Shared → Prop} (I : Inv X pins σ H s) (hg : Gl X x) (hm : X.mg x = none) (hv : bootBuiltins x = some u) (h : Q u s)
    (hn : x ≠ "__name__" := by decide) (hd : (x == ("__debug__" : Str)) = false := by decide) : wpAny (model X.prog X.w) X.A (eval (.Name x pos) X.env) Q E s := by
  obtain ⟨mb, h1, h2⟩ := I.mod.blt
  exact Calls.Name_function_global I.ok.kind hg (Calls.loadGlobal_builtin (by rw [I.ok.glob]; exact I.mod.glob.keeps I.bk) hm (by rw [I.ok.blt]; exact h1.keeps I.bk) ((h2 x hn).trans hv) h) hd
theorem pe_bltn {x : Str} {v : V} {u : Value} {pos : Pos} (hg : Gl X x) (hm : X.mg x = none) (hv : bootBuiltins x = some u) (r : RelV v u) (hn : x ≠ "__name__" := by decide) (hd : (x == ("__debug__" : Str)) = false := by decide) : PE X (.Name x pos) (tC v) :=
  fun _ _ _ H _ I h => ld_blt I hg hm hv ⟨v, H, I, r, h⟩ hn hd

variable {a b : Expr} {ta tb : TE} {pos : Pos}

def PC (X : Cx) (op : CmpOp) (a b : Expr) (t : TE) : Prop :=
  ∀ (pins : List (Addr × Obj)) (s : Shared) (σ : St) (H : Hp) (Q : VK), Inv X pins σ H s → t σ H Q →
    wpAny (model X.prog X.w) X.A (eval a X.env) (fun v s₁ => wpAny (model X.prog X.w) X.A (eval b X.env) (fun u s₂ => wpAny (model X.prog X.w) X.A (compareOp op v u) (EP X pins σ Q) X.xe s₂) X.xe s₁) X.xe s
theorem nobehind (b : Expr) {op : CmpOp} (h : op ≠ .In) (h2 : op ≠ .NotIn) : behindInMarks op b = false := by
  have e1 : (op == CmpOp.In) = false := by cases op <;> first | rfl | exact absurd rfl h
  have e2 : (op == CmpOp.NotIn) = false := by cases op <;> first | rfl | exact absurd rfl h2
  cases b <;> simp [behindInMarks, e1, e2]
def tB (t : TE) : TT := fun σ H Q => t σ H fun x H1 => ∃ c, x = .bl c ∧ Q c H1
theorem pt_cmp {op : CmpOp} {t : TE} (h : PC X op a b t) (h1 : behindInMarks op b = false := by first | exact nobehind _ (by decide) (by decide) | rfl) : PT X (.Compare a [op] [b] pos) (tB t) := by
  intro pins s σ H Q I hw
  refine wpAny_isTrue_Compare1 (thn (h pins s σ H _ I hw) fun v s1 h1 => thn h1 fun u s2 h2 => thn h2 fun c s3 ⟨x, H1, I1, r1, q1⟩ => ?_) h1
  obtain ⟨d, rfl, q⟩ := q1
  cases r1
  exact wpAny_truthy_bool ⟨H1, I1, q⟩
theorem pt_val {e : Expr} {t : TE} (h : PE X e t) (he : ∀ whole, isTrue e X.env whole = (do let v ← whole; standAt e.pos; holding [v] (truthy v)) := by intro _; rfl) : PT X e (tB t) := by
  intro pins s σ H Q I hw
  refine isTrue_plain (thn (h pins s σ H _ I hw) fun v s1 ⟨x, H1, I1, r1, q1⟩ => ?_) (he _)
  obtain ⟨d, rfl, q⟩ := q1
  cases r1
  exact wpAny_truthy_bool ⟨H1, I1, q⟩

variable {tA tB' : TT} {rest : List Expr}
def tAnd (t u : TT) : TT := fun σ H Q => t σ H fun c H1 => if c = true then u σ H1 Q else Q false H1
def tOr (t u : TT) : TT := fun σ H Q => t σ H fun c H1 => if c = true then Q true H1 else u σ H1 Q
def tNot (t : TT) : TT := fun σ H Q => t σ H fun c H1 => Q (!c) H1
theorem pw_and1 (ha : PT X a tA) : PW X (.BoolOp .And [a] pos) tA := by
  intro wh pins s σ H Q I h
  refine isTrue_and (thn (ha pins s σ H Q I h) fun c s1 e => ?_)
  cases c with
  | true => exact isTrue_and_nil e
  | false => exact e
theorem pw_or1 (ha : PT X a tA) : PW X (.BoolOp .Or [a] pos) tA := by
  intro wh pins s σ H Q I h
  refine isTrue_or (thn (ha pins s σ H Q I h) fun c s1 e => ?_)
  cases c with
  | false => exact isTrue_or_nil e
  | true => exact e
theorem pw_and (ha : PT X a tA) (hb : PW X (.BoolOp .And (b :: rest) pos) tB') : PW X (.BoolOp .And (a :: b :: rest) pos) (tAnd tA tB') := by
  intro wh pins s σ H Q I h
  refine isTrue_and (thn (ha pins s σ H _ I h) fun c s1 ⟨H1, I1, q1⟩ => ?_)
  cases c with
  | true => exact hb wh pins s1 σ H1 Q I1 q1
  | false => exact ⟨H1, I1, q1⟩
theorem pw_or (ha : PT X a tA) (hb : PW X (.BoolOp .Or (b :: rest) pos) tB') : PW X (.BoolOp .Or (a :: b :: rest) pos) (tOr tA tB') := by
  intro wh pins s σ H Q I h
  refine isTrue_or (thn (ha pins s σ H _ I h) fun c s1 ⟨H1, I1, q1⟩ => ?_)
  cases c with
  | true => exact ⟨H1, I1, q1⟩
  | false => exact hb wh pins s1 σ H1 Q I1 q1
theorem pt_not (ha : PT X a tA) : PT X (.UnaryOp .Not a pos) (tNot tA) := by
  intro pins s σ H Q I h
  exact isTrue_not (ha pins s σ H (fun c H1 => Q (!c) H1) I h)
def tAndV (ta tb : TE) : TE := fun σ H Q => ta σ H fun x H1 => ∃ c, x = .bl c ∧ if c = true then tb σ H1 Q else Q (.bl false) H1
def tOrV (ta tb : TE) : TE := fun σ H Q => ta σ H fun x H1 => ∃ c, x = .bl c ∧ if c = true then Q (.bl true) H1 else tb σ H1 Q
def tNotV (ta : TE) : TE := fun σ H Q => ta σ H fun x H1 => ∃ c, x = .bl c ∧ Q (.bl (!c)) H1
theorem pe_one {op} {t : TE} (h : PE X a t) : PE X (.BoolOp op [a] pos) t := fun pins s σ H Q I hw => BoolOp_one (h pins s σ H Q I hw)
theorem pe_and (ha : PE X a ta) (hb : PE X (.BoolOp .And (b :: rest) pos) tb) : PE X (.BoolOp .And (a :: b :: rest) pos) (tAndV ta tb) := by
  intro pins s σ H Q I h
  refine BoolOp_and (thn (ha pins s σ H _ I h) fun v s1 ⟨x, H1, I1, r1, q1⟩ => ?_)
  obtain ⟨c, rfl, q1⟩ := q1
  cases r1
  refine wpAny_truthy_bool ?_
  cases c with
  | true => exact hb pins s1 σ H1 Q I1 q1
  | false => exact ⟨.bl false, H1, I1, rfl, q1⟩
theorem pe_or (ha : PE X a ta) (hb : PE X (.BoolOp .Or (b :: rest) pos) tb) : PE X (.BoolOp .Or (a :: b :: rest) pos) (tOrV ta tb) := by
  intro pins s σ H Q I h
  refine BoolOp_or (thn (ha pins s σ H _ I h) fun v s1 ⟨x, H1, I1, r1, q1⟩ => ?_)
  obtain ⟨c, rfl, q1⟩ := q1
  cases r1
  refine wpAny_truthy_bool ?_
  cases c with
  | false => exact hb pins s1 σ H1 Q I1 q1
  | true => exact ⟨.bl true, H1, I1, rfl, q1⟩
theorem pe_not (ha : PE X a ta) : PE X (.UnaryOp .Not a pos) (tNotV ta) := by
  intro pins s σ H Q I h
  refine UnaryOp_ (thn (ha pins s σ H _ I h) fun v s1 ⟨x, H1, I1, r1, q1⟩ => ?_)
  obtain ⟨c, rfl, q1⟩ := q1
  cases r1
  exact not_of (wpAny_truthy_bool ⟨.bl (!c), H1, I1, rfl, q1⟩)
end
end L2

namespace L2
open PySem PySem.Spec PyProof.Rows

def SqL (K : PySem.W.Frag) (H : Hp) (a : Addr) (xs : List V) : Prop :=
  Rd H a (.lst xs) ∨
    ∃ (o : Obj) (its : Array Value) (n : Nat), K.lookup a = some o ∧ o.cls = .type "list" ∧ o.dict = none ∧ o.data = .seq its n ∧ its.size ≤ sizeLine ∧ Vals xs its.toList
def SqT (K : PySem.W.Frag) (H : Hp) (a : Addr) (xs : List V) : Prop :=
  Rd H a (.tup xs) ∨
    ∃ (o : Obj) (its : Array Value) (n : Nat), K.lookup a = some o ∧ o.cls = .type "tuple" ∧ o.data = .seq its n ∧ its.size ≤ sizeLine ∧ Vals xs its.toList
def absV : Value → Option V
  | .none => some .non
  | .bool b => some (.bl b)
  | .int i _ => some (.int i)
  | .str x _ => some (.str x)
  | .bytes b _ => some (.byt b)
  | .float b _ => some (.flt b)
  | .ref a => some (.ref a)
  | .type n => some (.ty n)
  | _ => none
theorem RelV.abs {x : V} {u : Value} (r : RelV x u) : absV u = some x := by
  cases x with
  | non => cases r; rfl
  | bl _ => cases r; rfl
  | int _ => obtain ⟨t, rfl⟩ := r; rfl
  | str _ => obtain ⟨t, rfl⟩ := r; rfl
  | byt _ => obtain ⟨t, rfl⟩ := r; rfl
  | flt _ => obtain ⟨t, rfl⟩ := r; rfl
  | ref _ => cases r; rfl
  | ty _ => cases r; rfl
theorem RelV.inj {x y : V} {u : Value} (r : RelV x u) (q : RelV y u) : x = y := Option.some.inj (r.abs.symm.trans q.abs)
theorem Vals.inj : ∀ {xs ys : List V} {us : List Value}, Vals xs us → Vals ys us → xs = ys
  | _, _, _, .nil, .nil => rfl
  | _, _, _, .cons r t, .cons r' t' => by rw [r.inj r', Vals.inj t t']
section
variable {X : Cx} {pins : List (Addr × Obj)} {σ : St} {H : Hp} {s : Shared} {a : Addr} {xs ys : List V}
theorem SqL.of {K : PySem.W.Frag} (h : H a = some (.lst xs)) : SqL K H a xs := .inl (.inl h)
theorem SqT.of {K : PySem.W.Frag} (h : H a = some (.tup xs)) : SqT K H a xs := .inl (.inl h)
theorem Inv.list (I : Inv X pins σ H s) (h : SqL X.K H a xs) : ∃ its : List Value, Vals xs its ∧ PlainL s.heap a its.toArray ∧ xs.length ≤ sizeLine := by
  rcases h with h | ⟨o, its, n, hk, hc, hd, hs, hz, r⟩
  · obtain ⟨z, its, n, r, e⟩ := h.ok I.hok
    exact ⟨its, r, ⟨_, n, e, rfl, rfl, rfl⟩, z⟩
  · refine ⟨its.toList, r, ⟨o, n, I.kIn a o hk, hc, hd, by simpa using hs⟩, ?_⟩
    have e := r.length
    simp only [Array.length_toList] at e
    omega
theorem Inv.tuple (I : Inv X pins σ H s) (h : SqT X.K H a xs) : ∃ its : List Value, Vals xs its ∧ IsTup s.heap a its.toArray ∧ xs.length ≤ sizeLine := by
  rcases h with h | ⟨o, its, n, hk, hc, hs, hz, r⟩
  · obtain ⟨z, its, r, p⟩ := h.ok I.hok
    exact ⟨its, r, p, z⟩
  · refine ⟨its.toList, r, ⟨o, I.kIn a o hk, hc, n, by simpa using hs⟩, ?_⟩
    have e := r.length
    simp only [Array.length_toList] at e
    omega
theorem Inv.list_inj (I : Inv X pins σ H s) (h : SqL X.K H a xs) (h' : SqL X.K H a ys) : xs = ys := by
  obtain ⟨its, r, ⟨o, n, e, _, _, d⟩, _⟩ := I.list h
  obtain ⟨its', r', ⟨o', n', e', _, _, d'⟩, _⟩ := I.list h'
  rw [e] at e'; cases e'
  rw [d] at d'
  injection d' with d1 _
  have : its = its' := by simpa using congrArg Array.toList d1
  subst this
  exact r.inj r'
theorem Inv.tuple_inj (I : Inv X pins σ H s) (h : SqT X.K H a xs) (h' : SqT X.K H a ys) : xs = ys := by
  obtain ⟨its, r, ⟨o, e, _, n, d⟩, _⟩ := I.tuple h
  obtain ⟨its', r', ⟨o', e', _, n', d'⟩, _⟩ := I.tuple h'
  rw [e] at e'; cases e'
  rw [d] at d'
  injection d' with d1 _
  have : its = its' := by simpa using congrArg Array.toList d1
  subst this
  exact r.inj r'
end

abbrev Cx.wish (X : Cx) (E : Value → Shared → Prop) : Cx := { X with xe := E }
abbrev Cx.nox (X : Cx) : Cx := X.wish fun _ _ => False
theorem Cx.Ok.wish {X : Cx} (ok : X.Ok) (E : Value → Shared → Prop) : (X.wish E).Ok :=
  ⟨ok.mod, ok.kind, ok.glob, ok.blt, ok.above, ok.inj, ok.has, ok.cab, ok.hd, ok.frames, ok.stk, ok.exf, ok.bs, ok.bsz, ok.noex, ok.exfs, ok.funs, ok.frf⟩
theorem Cx.Ok.unwish {X : Cx} {E : Value → Shared → Prop} (ok : (X.wish E).Ok) : X.Ok :=
  ⟨ok.mod, ok.kind, ok.glob, ok.blt, ok.above, ok.inj, ok.has, ok.cab, ok.hd, ok.frames, ok.stk, ok.exf, ok.bs, ok.bsz, ok.noex, ok.exfs, ok.funs, ok.frf⟩
section
variable {X : Cx} {pins : List (Addr × Obj)} {σ : St} {H : Hp} {s : Shared} {E : Value → Shared → Prop}
theorem Inv.wish (I : Inv X pins σ H s) (E : Value → Shared → Prop) : Inv (X.wish E) pins σ H s := ⟨I.ok.wish E, I.os, I.bare, I.base, I.loc, I.cell, I.free, I.freeC, I.pin, I.hok, I.len⟩
theorem Inv.unwish (I : Inv (X.wish E) pins σ H s) : Inv X pins σ H s := ⟨I.ok.unwish, I.os, I.bare, I.base, I.loc, I.cell, I.free, I.freeC, I.pin, I.hok, I.len⟩
theorem SP.unwish {D : Ends} {f : Flow} {s' : Shared} (h : SP (X.wish E) pins D f s') : SP X pins D f s' := by
  cases f with
  | next => obtain ⟨σ', H', I, q⟩ := h; exact ⟨σ', H', I.unwish, q⟩
  | brk => obtain ⟨σ', H', I, q⟩ := h; exact ⟨σ', H', I.unwish, q⟩
  | cont => obtain ⟨σ', H', I, q⟩ := h; exact ⟨σ', H', I.unwish, q⟩
  | ret u => obtain ⟨v, σ', H', I, r, q⟩ := h; exact ⟨v, σ', H', I.unwish, r, q⟩
theorem PSs.nox {st : List Stmt} {t : TS} (h : PSs X.nox st t) : PSs X st t := fun pins s σ H D I hw =>
  wpAny_mono (h pins s σ H D (I.wish _) hw) (fun _ _ q => q.unwish) fun _ _ z => False.elim z
end

section
variable {X : Cx} {st : Stmt} {rest : List Stmt} {t u : TS} {e : Expr} {te : TE} {pos : Pos}
def tNext : TS := fun D σ H => D.nx σ H
def tSeq (t u : TS) : TS := fun D σ H => t { D with nx := u D } σ H
theorem pss_nil : PSs X [] tNext := fun _ _ σ H _ I h => wpAny_execs_nil ⟨σ, H, I, h⟩
theorem pss_cons (h1 : PS X st t) (h2 : PSs X rest u) : PSs X (st :: rest) (tSeq t u) := by
  intro pins s σ H D I h
  refine wpAny_execs_cons (thn (h1 pins s σ H { D with nx := u D } I h) fun f s1 q => ?_)
  cases f with
  | next =>
    obtain ⟨σ', H', I', q⟩ := q
    exact h2 pins s1 σ' H' D I' q
  | ret v => exact q
  | brk => exact q
  | cont => exact q
theorem pss_one (h1 : PS X st t) : PSs X [st] t := by
  intro pins s σ H D I h
  refine wpAny_execs_cons (thn (h1 pins s σ H D I h) fun f s1 q => ?_)
  cases f with
  | next => exact wpAny_execs_nil q
  | ret v => exact q
  | brk => exact q
  | cont => exact q
theorem Inv.quiet {pins : List (Addr × Obj)} {σ : St} {H : Hp} {s : Shared} (I : Inv X pins σ H s) : interactive X.env = false := by simp [interactive, I.ok.kind]
def tDrop (te : TE) : TS := fun D σ H => te σ H fun _ H1 => D.nx σ H1
theorem ps_expr (he : PE X e te) (hs : swapsWith e none pos.line X.env = pure false := by rfl) : PS X (.Expr e pos) (tDrop te) := by
  intro pins s σ H D I h
  exact wpAny_Expr_any (thn (he pins s σ H _ I h) fun v s1 ⟨x, H1, I1, r1, q1⟩ => ⟨σ, H1, I1, q1⟩) I.quiet hs
def tRet (te : TE) : TS := fun D σ H => te σ H D.rt
theorem ps_ret (he : PE X e te) : PS X (.Return (some e) pos) (tRet te) := by
  intro pins s σ H D I h
  exact wpAny_Return_some (thn (he pins s σ H _ I h) fun v s1 ⟨x, H1, I1, r1, q1⟩ => ⟨x, σ, H1, I1, r1, q1⟩)
def tIfS (c : TT) (t u : TS) : TS := fun D σ H => c σ H fun b H1 => if b = true then t D σ H1 else u D σ H1
theorem ps_if {c : Expr} {a b : List Stmt} {tc : TT} (hc : PT X c tc) (ha : PSs X a t) (hb : PSs X b u) : PS X (.If c a b pos) (tIfS tc t u) := by
  intro pins s σ H D I h
  refine wpAny_If (thn (hc pins s σ H _ I h) fun d s1 ⟨H1, I1, q1⟩ => ?_)
  cases d with
  | true => exact ha pins s1 σ H1 D I1 q1
  | false => exact hb pins s1 σ H1 D I1 q1
def tNever : TS := fun _ _ _ => False
theorem ps_never : PS X st tNever := fun _ _ _ _ _ _ h => h.elim
end

abbrev TG := V → St → Hp → (St → Hp → Prop) → Prop
def PG (X : Cx) (target : Expr) (t : TG) : Prop :=
  ∀ (pins : List (Addr × Obj)) (s : Shared) (σ : St) (H : Hp) (v : V) (u : Value) (Q : St → Hp → Prop), Inv X pins σ H s → RelV v u → t v σ H Q →
    wpAny (model X.prog X.w) X.A (assign target X.env u) (fun _ s' => ∃ σ' H', Inv X pins σ' H' s' ∧ Q σ' H') X.xe s
abbrev TSet := V → V → V → Hp → (Hp → Prop) → Prop
def PSet (X : Cx) (t : TSet) : Prop :=
  ∀ (pins : List (Addr × Obj)) (s : Shared) (σ : St) (H : Hp) (o i v : V) (ov iv u : Value) (Q : Hp → Prop), Inv X pins σ H s → RelV o ov → RelV i iv → RelV v u → t o i v H Q →
    wpAny (model X.prog X.w) X.A (setItem ov iv u) (fun _ s' => ∃ H', Inv X pins σ H' s' ∧ Q H') X.xe s
abbrev TIp := V → V → Hp → VK → Prop
def PIp (X : Cx) (op : Operator) (t : TIp) : Prop :=
  ∀ (pins : List (Addr × Obj)) (s : Shared) (σ : St) (H : Hp) (x y : V) (v u : Value) (Q : VK), Inv X pins σ H s → RelV x v → RelV y u → t x y H Q →
    wpAny (model X.prog X.w) X.A (inplaceOp op v u) (EP X pins σ Q) X.xe s
section
variable {X : Cx} {pos : Pos}
def gName (i : Nat) : TG := fun v σ H Q => Q (σ.set i (some v)) H
theorem pg_name {i : Nat} {x : Str} (hN : X.N.Nodup) (hi : X.N[i]? = some x) (hx : Loc X.env.scope x) (hf : X.fn x = true ∨ X.env.scope.names.lookup x = some .local := by first | exact .inl rfl | exact .inr rfl | assumption) : PG X (.Name x pos) (gName i) := by
  intro pins s σ H v u Q I r h
  exact wpAny_assign_Name (store_ok I hN hi hx r (fun s' I' => ⟨_, H, I', h⟩) hf)
def gSub (to ti : TE) (t : TSet) : TG := fun v σ H Q => to σ H fun o H1 => ti σ H1 fun i H2 => t o i v H2 fun H3 => Q σ H3
theorem pg_sub {o i : Expr} {to ti : TE} {t : TSet} (ho : PE X o to) (hi : PE X i ti) (hs : PSet X t)
    (ha : ∀ v, assign (.Subscript o i pos) X.env v = (do
      let ov ← holding [v] (eval o X.env)
      let iv ← holding [v, ov] (eval i X.env)
      standAt pos
      holding [v, ov, iv] (setItem ov iv v)
      release [v, ov, iv] []) := by intro _; rfl) : PG X (.Subscript o i pos) (gSub to ti t) := by
  intro pins s σ H v u Q I r h
  rw [ha]
  refine wpAny_bind (wpAny_holding (thn (ho pins s σ H _ I h) fun ov s1 ⟨x, H1, I1, r1, q1⟩ => ?_))
  refine wpAny_bind (wpAny_holding (thn (hi pins s1 σ H1 _ I1 q1) fun iv s2 ⟨y, H2, I2, r2, q2⟩ => ?_))
  refine wpAny_bind (wpAny_standAt (wpAny_bind (wpAny_holding (thn (hs pins s2 σ H2 x y v ov iv u _ I2 r1 r2 r q2) fun _ s3 ⟨H3, I3, q3⟩ => ?_))))
  exact wpAny_release ⟨σ, H3, I3, q3⟩
def tAsg (te : TE) (g : TG) : TS := fun D σ H => te σ H fun x H1 => g x σ H1 D.nx
theorem ps_asg {tg e : Expr} {te : TE} {g : TG} (he : PE X e te) (hg : PG X tg g) (hs : swapsWithSole [tg] e pos.line X.env = pure false := by rfl) (hw : swappedStores [tg] e X.env = pure none := by rfl)
    (h1 : (assignEach [tg] X.env).map (·.2) = [assign tg X.env] := by rfl) : PS X (.Assign [tg] e pos) (tAsg te g) := by
  intro pins s σ H D I h
  refine wpAny_Assign_stores (thn (he pins s σ H _ I h) fun v s1 ⟨x, H1, I1, r1, q1⟩ => ?_) hs hw
  rw [h1]
  exact thn (hg pins s1 σ H1 x v _ I1 r1 q1) fun _ s2 q => q
theorem ps_set {i : Nat} {x : Str} {e : Expr} {te : TE} {pos' : Pos} (hN : X.N.Nodup) (hi : X.N[i]? = some x) (hx : Loc X.env.scope x) (he : PE X e te) (hs : swapsWith e (some (.Name x pos')) pos.line X.env = pure false := by rfl) (hf : X.fn x = true ∨ X.env.scope.names.lookup x = some .local := by first | exact .inl rfl | exact .inr rfl | assumption) :
    PS X (.Assign [.Name x pos'] e pos) (tAsg te (gName i)) := by
  intro pins s σ H D I h
  refine wpAny_Assign_Name (thn (he pins s σ H _ I h) fun v s1 ⟨y, H1, I1, r1, q1⟩ => ?_) hs
  exact store_ok I1 hN hi hx r1 (fun s2 I2 => ⟨_, H1, I2, q1⟩) hf
def tAug (i : Nat) (te : TE) (ti : TIp) : TS := fun D σ H => ∃ x, σ[i]? = some (some x) ∧ te σ H fun y H1 => ti x y H1 fun z H2 => D.nx (σ.set i (some z)) H2
theorem ps_aug {i : Nat} {x : Str} {e : Expr} {te : TE} {op : Operator} {ti : TIp} {pos' : Pos} (hN : X.N.Nodup) (hi : X.N[i]? = some x) (hx : Loc X.env.scope x) (he : PE X e te) (ho : PIp X op ti) (hf : X.fn x = true ∨ X.env.scope.names.lookup x = some .local := by first | exact .inl rfl | exact .inr rfl | assumption) :
    PS X (.AugAssign (.Name x pos') op e pos) (tAug i te ti) := by
  intro pins s σ H D I h
  obtain ⟨v, e1, h⟩ := h
  obtain ⟨m, hn, hl⟩ := I.loc
  have vis : Vis X.env.scope x := by rcases hx with k | k; exact .inl k; exact .inr (.inl k)
  obtain ⟨u, r, l⟩ := hl i x v hi e1 vis
  refine wpAny_AugAssign_Name ?_
  have go : wpAny (model X.prog X.w) X.A (eval e X.env) (fun w s₂ => wpAny (model X.prog X.w) X.A (inplaceOp op u w) (fun r s₃ => wpAny (model X.prog X.w) X.A (storeName X.env x r) (fun _ => SP X pins D .next) X.xe s₃) X.xe s₂) X.xe s := by
    refine thn (he pins s σ H _ I h) fun w s1 ⟨y, H1, I1, r1, q1⟩ => ?_
    refine thn (ho pins s1 σ H1 v y u w _ I1 r r1 q1) fun z s2 ⟨zv, H2, I2, r2, q2⟩ => ?_
    exact store_ok I2 hN hi hx r2 (fun s3 I3 => ⟨_, H2, I3, q2⟩) hf
  rcases l with ⟨hk, hm⟩ | ⟨hk, c, hc, hcell⟩
  · exact wpAny_loadName_local I.ok.kind hk hn hm go
  · rcases hk with hk | hk
    · exact wpAny_loadName_cell I.ok.kind hk hc hcell go
    · rcases hx with k | k
      · have : X.env.scope.names.lookup x = some .free := hk
        rw [k] at this; cases this
      · have : X.env.scope.names.lookup x = some .free := hk
        rw [k] at this; cases this
def ipI (f : Int → Int → Int) : TIp := fun x y H Q => ∃ i j, x = .int i ∧ y = .int j ∧ Q (.int (f i j)) H
theorem ip_add : PIp X .Add (ipI fun i j => i + j) := by
  intro pins s σ H x y v u Q I r1 r2 h
  obtain ⟨i, j, e1, e2, q⟩ := h
  subst e1; subst e2
  obtain ⟨t, rfl⟩ := r1
  obtain ⟨t', rfl⟩ := r2
  exact iadd_int ⟨.int _, H, I.tok _, ⟨_, rfl⟩, q⟩
end

section
variable {X : Cx} {pos : Pos}
def tWhile (c : TT) (tb : TS) : TS := fun D σ H => ∃ W : Nat → St → Hp → Prop, (∃ m, W m σ H) ∧ ∀ m σ H, W m σ H →
  c σ H fun b H1 => if b = true then ∃ N : St → Hp → Prop, (∀ σ' H', N σ' H' → ∃ m', m' < m ∧ W m' σ' H') ∧ tb { D with nx := N, ct := N, bk := D.nx } σ H1 else D.nx σ H1
theorem ps_while {c : Expr} {body : List Stmt} {tc : TT} {tb : TS} (hp : PassesOwn (model X.prog X.w) X.A X.env X.xe) (hc : PT X c tc) (hb : PSs X body tb) : PS X (.While c body [] pos) (tWhile tc tb) := by
  intro pins s σ H D I h
  obtain ⟨W, ⟨m0, w0⟩, turn⟩ := h
  refine wpAny_While (codeAny_whileLoop (fun n s' => ∃ σ' H', Inv X pins σ' H' s' ∧ W n σ' H') ?_ m0 ⟨σ, H, I, w0⟩)
  rintro n s1 ⟨σ1, H1, I1, w1⟩
  refine wpAny_passesOwn hp (thn (hc pins s1 σ1 H1 _ I1 (turn n σ1 H1 w1)) fun b s2 ⟨H2, I2, q2⟩ => ?_)
  cases b with
  | true =>
    obtain ⟨N, hN, q2⟩ := q2
    rw [if_pos rfl]
    refine wpAny_passesOwn hp (thn (hb pins s2 σ1 H2 _ I2 q2) fun f s3 q3 => ?_)
    cases f with
    | next =>
      obtain ⟨σ3, H3, I3, n3⟩ := q3
      obtain ⟨m', hm, w3⟩ := hN σ3 H3 n3
      exact ⟨m', hm, σ3, H3, I3, w3⟩
    | cont =>
      obtain ⟨σ3, H3, I3, n3⟩ := q3
      obtain ⟨m', hm, w3⟩ := hN σ3 H3 n3
      exact ⟨m', hm, σ3, H3, I3, w3⟩
    | brk => exact q3
    | ret v => exact q3
  | false =>
    rw [if_neg Bool.false_ne_true]
    exact wpAny_execs_nil ⟨σ1, H2, I2, q2⟩
end

structure It where
  go : Nat → Hp → Prop
  yld : Nat → Hp → V → Hp → Prop
  stop : Nat → Hp → Prop
def FpOk (X : Cx) (pins : List (Addr × Obj)) (H : Hp) (b : Addr) : Prop :=
  H b = none ∧ b ≠ X.env.locals ∧ b ∉ X.fs ∧ (b ∈ X.ex ∨ X.s₀.heap.objs.size ≤ b) ∧ (∀ x c, X.env.cells.lookup x = some c → c ≠ b) ∧ ∀ p ∈ X.pn ++ pins, p.1 ≠ b
theorem Inv.fpOk {X : Cx} {pins : List (Addr × Obj)} {σ : St} {H H' : Hp} {s : Shared} {b : Addr} (I : Inv X pins σ H s) (hb : s.heap.objs.size ≤ b) (hn : H' b = none) : FpOk X pins H' b := by
  refine ⟨hn, Nat.ne_of_gt (Nat.lt_of_lt_of_le I.lt hb), I.nofs hb, .inr (Nat.le_trans I.sz hb), fun x c e z => ?_, fun p hp z => ?_⟩
  · obtain ⟨v, q⟩ := I.cell x c e
    exact absurd (Nat.lt_of_lt_of_le q.lt (by rw [z]; exact hb)) (Nat.lt_irrefl _)
  · exact absurd (Nat.lt_of_lt_of_le (Heap.lt_size (I.pin p hp).1) (by rw [z]; exact hb)) (Nat.lt_irrefl _)
structure Turn (P : Program) (w : World) (K : PySem.W.Frag) (tg : Expr) (J : It) (fp : List Addr) (it : Addr) (tn : Nat → Heap → Prop) : Prop where
  mem : it ∈ fp
  obj : ∀ i h, tn i h → ∀ b ∈ fp, ∃ o, h.get? b = some o ∧ ∀ v, o.data ≠ .cell v
  keep : ∀ i h h', tn i h → (∀ b ∈ fp, ∀ o, h.get? b = some o → h'.get? b = some o) → tn i h'
  item : ∀ (X : Cx), X.prog = P → X.w = w → X.K = K → X.calm = true → ∀ (i : Nat) (pins : List (Addr × Obj)) (s : Shared) (σ : St) (H : Hp) (E : Value → Shared → Prop), Inv X pins σ H s → (∀ b ∈ fp, FpOk X pins H b) → tn i s.heap → J.go i H →
    wpAny (model P w) X.A (pyNext (.ref it)) (fun r s1 => ∃ u, r = some u ∧
      wpAny (model P w) X.A (letOwnedTupleGo tg (.ref it) u) (fun _ s2 => ∃ x H', Inv X pins σ H' s2 ∧ RelV x u ∧ J.yld i H x H' ∧ tn (i + 1) s2.heap ∧ ∀ b ∈ fp, H' b = none) E s1) E s
  done : ∀ (X : Cx), X.prog = P → X.w = w → X.K = K → X.calm = true → ∀ (i : Nat) (pins : List (Addr × Obj)) (s : Shared) (σ : St) (H : Hp) (E : Value → Shared → Prop), Inv X pins σ H s → (∀ b ∈ fp, FpOk X pins H b) → tn i s.heap → J.stop i H →
    wpAny (model P w) X.A (pyNext (.ref it)) (fun r s1 => r = none ∧ Inv X pins σ H s1) E s
  self : ∀ (A : Around) (i : Nat) (s : Shared) (Q : Value → Shared → Prop) (E : Value → Shared → Prop), tn i s.heap → Q (.ref it) s → wpAny (model P w) A (pyIter (.ref it)) Q E s
abbrev TI := St → Hp → (It → Hp → Prop) → Prop
def PIE (X : Cx) (pins : List (Addr × Obj)) (σ : St) (tg : Expr) (R : It → Hp → Prop) (itv : Value) (s2 : Shared) : Prop :=
  ∃ (it : Addr) (fp : List Addr) (tn : Nat → Heap → Prop) (J : It) (H' : Hp), itv = .ref it ∧ Inv X pins σ H' s2 ∧ Turn X.prog X.w X.K tg J fp it tn ∧ tn 0 s2.heap ∧ (∀ b ∈ fp, FpOk X pins H' b) ∧ R J H'
def PI (X : Cx) (tg iter : Expr) (wi : TI) : Prop :=
  ∀ (pins : List (Addr × Obj)) (s : Shared) (σ : St) (H : Hp) (R : It → Hp → Prop), Inv X pins σ H s → wi σ H R →
    wpAny (model X.prog X.w) X.A (eval iter X.env) (fun v s1 => wpAny (model X.prog X.w) X.A (pyIter v) (PIE X pins σ tg R) X.xe s1) X.xe s

theorem go_of {M : Model} {A : Around} {E : Value → Shared → Prop} {s : Shared} {tg : Expr} {it : Addr} {u : Value} {o : Obj} {n : String} {vs : Array Value} {Q : Unit → Shared → Prop} (ho : s.heap.get? it = some o) (hc : o.cls = .type n) (hd : o.data = .fields vs)
    (hn : ["enumerate", "zip", "dict_itemiterator", "dict_reverseitemiterator", "odict_iterator", "itertools.zip_longest", "itertools.pairwise"].contains n = false) (hQ : Q () s) : wpAny M A (letOwnedTupleGo tg (.ref it) u) Q E s := by
  unfold letOwnedTupleGo
  cases tg <;> first
    | exact wpAny_pure hQ
    | (cases u <;> first
        | exact wpAny_pure hQ
        | (refine wpAny_bind (wpAny_load ho ?_)
           rw [hc, hd]
           show wpAny M A (if (["enumerate", "zip", "dict_itemiterator", "dict_reverseitemiterator", "odict_iterator", "itertools.zip_longest", "itertools.pairwise"].contains n && vs[0]? == some (rawInt _)) = true then _ else _) Q E s
           rw [if_neg (by intro h; rw [hn, Bool.false_and] at h; cases h)]
           exact wpAny_pure hQ))

def Itl (K : PySem.W.Frag) (a : Addr) : It :=
  ⟨fun i H => ∃ xs x, SqL K H a xs ∧ xs[i]? = some x, fun i H x H' => H' = H ∧ ∀ xs, SqL K H a xs → xs[i]? = some x, fun i H => ∃ xs, SqL K H a xs ∧ xs.length ≤ i⟩
def Itt (K : PySem.W.Frag) (a : Addr) : It :=
  ⟨fun i H => ∃ xs x, SqT K H a xs ∧ xs[i]? = some x, fun i H x H' => H' = H ∧ ∀ xs, SqT K H a xs → xs[i]? = some x, fun i H => ∃ xs, SqT K H a xs ∧ xs.length ≤ i⟩
def Itr (lo : Int) (n : Nat) : It := ⟨fun i _ => i < n, fun i H x H' => H' = H ∧ x = .int (lo + i), fun i _ => n ≤ i⟩
theorem turn_list {P : Program} {w : World} {K : PySem.W.Frag} {tg : Expr} (a it : Addr) : Turn P w K tg (Itl K a) [it] it (fun i h => h.IsListIter it a i) where
  mem := by simp
  obj := fun i h st b hb => by
    have e : b = it := by simpa using hb
    subst e
    obtain ⟨o, e, c, d⟩ := st
    exact ⟨o, e, fun v z => by rw [d] at z; cases z⟩
  keep := fun i h h' st k => st.at fun o e => k it (by simp) o e
  item := by
    intro X hP hw hK hc i pins s σ H E I hf st hg
    subst hP hw hK
    obtain ⟨xs, x, hq, hx⟩ := hg
    obtain ⟨its, rv, p, hz⟩ := I.list hq
    obtain ⟨u, hu, ru⟩ := rv.get hx
    obtain ⟨f0, f1, f2, f3, f4, f5⟩ := hf it (by simp)
    refine wpAny_pyNext_list_item st p.isList (x := u) (by simpa using hu) fun h' st' sb => ?_
    have I1 : Inv X pins σ H { s with heap := h' } := I.turned (t' := s.toks) (fun b o hb e => (sb.2 b hb).trans e) f0 f1 f3 f4 f5
    obtain ⟨o, e, c, d⟩ := id st'
    exact ⟨u, rfl, go_of (s := { s with heap := h' }) e c d (by decide) ⟨x, H, I1, ru, ⟨rfl, fun ys hy => by rw [I.list_inj hy hq]; exact hx⟩, st', fun b hb => (hf b hb).1⟩⟩
  done := by
    intro X hP hw hK hc i pins s σ H E I hf st hg
    subst hP hw hK
    obtain ⟨xs, hq, hx⟩ := hg
    obtain ⟨its, rv, p, hz⟩ := I.list hq
    obtain ⟨f0, f1, f2, f3, f4, f5⟩ := hf it (by simp)
    have hl := rv.length
    exact wpAny_pyNext_list_end (I.ok.hd hc) st p.isList (by simp; omega) fun h' eb => ⟨rfl, I.turned (t' := s.toks) (fun b o hb e => eb b o hb e) f0 f1 f3 f4 f5⟩
  self := fun _ _ _ _ _ st h => wpAny_pyIter_listiter st h
theorem turn_tuple {P : Program} {w : World} {K : PySem.W.Frag} {tg : Expr} (a it : Addr) : Turn P w K tg (Itt K a) [it] it (fun i h => h.IsTupleIter it a i) where
  mem := by simp
  obj := fun i h st b hb => by
    have e : b = it := by simpa using hb
    subst e
    obtain ⟨o, e, c, d⟩ := st
    exact ⟨o, e, fun v z => by rw [d] at z; cases z⟩
  keep := fun i h h' st k => st.at fun o e => k it (by simp) o e
  item := by
    intro X hP hw hK hc i pins s σ H E I hf st hg
    subst hP hw hK
    obtain ⟨xs, x, hq, hx⟩ := hg
    obtain ⟨its, rv, p, hz⟩ := I.tuple hq
    obtain ⟨u, hu, ru⟩ := rv.get hx
    obtain ⟨f0, f1, f2, f3, f4, f5⟩ := hf it (by simp)
    refine wpAny_pyNext_tuple_item st (show s.heap.IsTuple a its.toArray from p) (x := u) (by simpa using hu) fun h' st' sb => ?_
    have I1 : Inv X pins σ H { s with heap := h' } := I.turned (t' := s.toks) (fun b o hb e => (sb.2 b hb).trans e) f0 f1 f3 f4 f5
    obtain ⟨o, e, c, d⟩ := id st'
    exact ⟨u, rfl, go_of (s := { s with heap := h' }) e c d (by decide) ⟨x, H, I1, ru, ⟨rfl, fun ys hy => by rw [I.tuple_inj hy hq]; exact hx⟩, st', fun b hb => (hf b hb).1⟩⟩
  done := by
    intro X hP hw hK hc i pins s σ H E I hf st hg
    subst hP hw hK
    obtain ⟨xs, hq, hx⟩ := hg
    obtain ⟨its, rv, p, hz⟩ := I.tuple hq
    obtain ⟨f0, f1, f2, f3, f4, f5⟩ := hf it (by simp)
    have hl := rv.length
    exact wpAny_pyNext_tuple_end (I.ok.hd hc) st (show s.heap.IsTuple a its.toArray from p) (by simp; omega) fun h' eb => ⟨rfl, I.turned (t' := s.toks) (fun b o hb e => eb b o hb e) f0 f1 f3 f4 f5⟩
  self := fun _ _ _ _ _ st h => wpAny_pyIter_tupleiter st h
theorem turn_range {P : Program} {w : World} {K : PySem.W.Frag} {tg : Expr} (it : Addr) (lo : Int) (n : Nat) : Turn P w K tg (Itr lo n) [it] it (fun i h => IsRangeIter h it (lo + (i : Nat) * 1) ((n : Int) - (i : Nat)) 1) where
  mem := by simp
  obj := fun i h st b hb => by
    have e : b = it := by simpa using hb
    subst e
    exact ⟨_, st, fun v z => by
      have z' : Data.fields _ = Data.cell v := z
      cases z'⟩
  keep := fun i h h' st k => k it (by simp) _ st
  item := by
    intro X hP hw hK hc i pins s σ H E I hf st hg
    subst hP hw hK
    obtain ⟨f0, f1, f2, f3, f4, f5⟩ := hf it (by simp)
    have W := Walks.range (prog := X.prog) (w := X.w) (I.ok.hd hc) it lo 1 n
    refine W.item i s _ _ hg st fun v h' tk hv st' kk => ?_
    obtain ⟨t, rfl⟩ := hv
    have I1 : Inv X pins σ H { s with heap := h', toks := tk } := I.turned (fun b o hb e => kk b o (by simpa using hb) e) f0 f1 f3 f4 f5
    refine ⟨_, rfl, go_of (s := { s with heap := h', toks := tk }) (n := "range_iterator") st' rfl rfl (by decide) ⟨.int (lo + i), H, I1, ⟨t, ?_⟩, ⟨rfl, rfl⟩, st', fun b hb => (hf b hb).1⟩⟩
    rw [Int.mul_one]
  done := by
    intro X hP hw hK hc i pins s σ H E I hf st hg
    subst hP hw hK
    obtain ⟨f0, f1, f2, f3, f4, f5⟩ := hf it (by simp)
    exact wpAny_pyNext_range_end (I.ok.hd hc) st (by have : n ≤ i := hg; omega) fun h' eb => ⟨rfl, I.turned (t' := s.toks) (fun b o hb e => eb b o hb e) f0 f1 f3 f4 f5⟩
  self := fun _ _ _ _ _ st h => wpAny_pyIter_rangeiter st h
end L2

namespace L2
open PySem PySem.Spec PyProof.Rows
section
variable {X : Cx} {tg : Expr}
def iList (K : PySem.W.Frag) (tl : TE) : TI := fun σ H R => tl σ H fun x H1 => ∃ a, x = .ref a ∧ (∃ xs, SqL K H1 a xs) ∧ R (Itl K a) H1
theorem pi_list {l : Expr} {tl : TE} (hl : PE X l tl) : PI X tg l (iList X.K tl) := by
  intro pins s σ H R I h
  refine thn (hl pins s σ H _ I h) fun v s1 ⟨x, H1, I1, r1, q1⟩ => ?_
  obtain ⟨a, e, ⟨xs, hq⟩, q⟩ := q1
  subst e
  cases r1
  obtain ⟨its, rv, p, hz⟩ := I1.list hq
  refine wpAny_pyIter_list p.isList ?_
  refine ⟨s1.heap.objs.size, [s1.heap.objs.size], _, _, H1, rfl, I1.kept (t' := s1.toks) fun b o e => Heap.get?_push_of_some _ e, turn_list a _, ⟨_, Heap.get?_push_size _ rfl, rfl, rfl⟩, fun b hb => ?_, q⟩
  have e : b = s1.heap.objs.size := by simpa using hb
  subst e
  exact I1.fpOk (Nat.le_refl _) (I1.hok.fresh (Nat.le_refl _))
theorem range_it {pins : List (Addr × Obj)} {σ : St} {H : Hp} {s : Shared} {R : It → Hp → Prop} {E : Value → Shared → Prop} {lo hi : Int} {t u v : Tok} {tk : Nat} (I : Inv X pins σ H s) (h1 : -(2 ^ 62) ≤ lo) (h2 : lo < 2 ^ 62) (h3 : -(2 ^ 62) ≤ hi) (h4 : hi < 2 ^ 62)
    (q : R (Itr lo (hi - lo).toNat) H) : wpAny (model X.prog X.w) X.A (pyIter (.ref s.heap.objs.size)) (PIE X pins σ tg R) E { s with heap := s.heap.push { cls := .type "range", data := .fields #[.int lo t, .int hi u, .int 1 v] }, toks := tk } := by
  refine wpAny_pyIter_range (IsRange.new ..) (small_one h1 h2 h3 h4) ?_
  have I1 : Inv X pins σ H { s with heap := s.heap.push { cls := .type "range", data := .fields #[.int lo t, .int hi u, .int 1 v] }, toks := tk } := I.kept fun b o e => Heap.get?_push_of_some _ e
  refine ⟨(s.heap.push { cls := .type "range", data := .fields #[.int lo t, .int hi u, .int 1 v] }).objs.size, [(s.heap.push { cls := .type "range", data := .fields #[.int lo t, .int hi u, .int 1 v] }).objs.size], _, _, H, rfl,
    I1.kept (t' := tk) fun b o e => Heap.get?_push_of_some _ e, turn_range _ lo (hi - lo).toNat, ?_, fun b hb => ?_, q⟩
  · have e1 : lo + ((0 : Nat) : Int) * 1 = lo := by simp
    have e2 : (((hi - lo).toNat : Nat) : Int) - ((0 : Nat) : Int) = Builtin.Range.rangeSize lo hi 1 := by rw [rangeSize_one]; split <;> omega
    show IsRangeIter _ _ (lo + ((0 : Nat) : Int) * 1) ((((hi - lo).toNat : Nat) : Int) - ((0 : Nat) : Int)) 1
    rw [e1, e2]
    exact Heap.get?_push_size _ rfl
  · have e : b = (s.heap.push { cls := .type "range", data := .fields #[.int lo t, .int hi u, .int 1 v] }).objs.size := by simpa using hb
    subst e
    exact I1.fpOk (Nat.le_refl _) (I1.hok.fresh (Nat.le_refl _))
def iRng1 (ta : TA) : TI := fun σ H R => ta σ H fun vs H1 => ∃ j : Int, vs = [.int j] ∧ -(2 ^ 62) ≤ j ∧ j < 2 ^ 62 ∧ R (Itr 0 j.toNat) H1
theorem pi_range1 {a : Expr} {ta : TA} {p pos : Pos} (hg : Gl X "range") (hm : X.mg "range" = none) (ha : PA X [a] ta) (hs : starEach [a] X.env = [(false, eval a X.env)] := by rfl) : PI X tg (.Call (.Name "range" p) [a] [] pos) (iRng1 ta) := by
  intro pins s σ H R I h
  refine Call_ (ld_blt I hg hm boot_range (PyProof.Rows.callWith_type1 (thn (ha pos pins s σ H _ I h) fun us s1 ⟨vs, H1, I1, r1, q1⟩ => ?_) hs rfl))
  obtain ⟨j, e, q1, q2, q⟩ := q1
  subst e
  cases r1 with
  | cons r rr =>
    cases rr
    obtain ⟨t, rfl⟩ := r
    exact call_range_1 (range_it I1 (by omega) (by omega) q1 q2 (by simpa using q))

def tFor (wi : TI) (g : TG) (tb : TS) : TS := fun D σ H => wi σ H fun J H1 => ∃ W : Nat → Nat → St → Hp → Prop, (∃ m, W 0 m σ H1) ∧ ∀ i m σ H, W i m σ H →
  (J.stop i H ∧ D.nx σ H) ∨ (J.go i H ∧ ∃ N : St → Hp → Prop, (∀ σ' H', N σ' H' → ∃ m', m' < m ∧ W (i + 1) m' σ' H') ∧ ∀ x H', J.yld i H x H' → g x σ H' fun σ2 H2 => tb { D with nx := N, ct := N, bk := D.nx } σ2 H2)
def pinsAt (fp : List Addr) (h : Heap) : List (Addr × Obj) := fp.filterMap fun b => (h.get? b).map fun o => (b, o)
theorem mem_pinsAt {fp : List Addr} {h : Heap} {b : Addr} {o : Obj} (hb : b ∈ fp) (e : h.get? b = some o) : (b, o) ∈ pinsAt fp h := List.mem_filterMap.mpr ⟨b, hb, by rw [e]; rfl⟩
theorem of_pinsAt {fp : List Addr} {h : Heap} {p : Addr × Obj} (hp : p ∈ pinsAt fp h) : p.1 ∈ fp ∧ h.get? p.1 = some p.2 := by
  obtain ⟨b, hb, e⟩ := List.mem_filterMap.mp hp
  cases q : h.get? b with
  | none => rw [q] at e; cases e
  | some o =>
    rw [q] at e
    have e' : (b, o) = p := Option.some.inj e
    subst e'
    exact ⟨hb, q⟩
theorem Inv.pinned {pins : List (Addr × Obj)} {σ : St} {H : Hp} {s : Shared} {fp : List Addr} (I : Inv X pins σ H s) (hf : ∀ b ∈ fp, FpOk X pins H b) (ho : ∀ b ∈ fp, ∃ o, s.heap.get? b = some o ∧ ∀ v, o.data ≠ .cell v) : Inv X (pins ++ pinsAt fp s.heap) σ H s :=
  I.pins_of fun p hp => (List.mem_append.mp hp).elim (fun z => I.pin p (List.mem_append_right _ z)) fun z => by
    obtain ⟨hb, e⟩ := of_pinsAt z
    obtain ⟨f0, f1, f2, _⟩ := hf p.1 hb
    obtain ⟨o, e', d⟩ := ho p.1 hb
    rw [e] at e'; cases e'
    exact ⟨e, f0, f1, f2, d⟩
theorem Inv.unpinned {pins pl : List (Addr × Obj)} {σ : St} {H : Hp} {s : Shared} (I : Inv X (pins ++ pl) σ H s) : Inv X pins σ H s := I.pins_of fun p hp => I.pin p (List.mem_append_right _ (List.mem_append_left _ hp))
theorem ps_for {iter : Expr} {body : List Stmt} {wi : TI} {g : TG} {tb : TS} {pos : Pos} (hp : PassesOwn (model X.prog X.w) X.A X.env X.xe) (hc : X.calm = true) (hi : PI X tg iter wi) (hg : PG X tg g) (hb : PSs X body tb)
    (hs : ∀ x, foldedSetIterable iter X.env x = pure x := by intro _; rfl) : PS X (.For tg iter body [] pos) (tFor wi g tb) := by
  intro pins s σ H D I h
  refine wpAny_For (thn (hi pins s σ H _ I h) fun v s1 h1 => thn h1 fun itv s2 h2 => ?_) hs
  obtain ⟨it, fp, tn, J, H2, e, I2, T, st2, f2, W, ⟨m0, w0⟩, turn⟩ := h2
  subst e
  -- what stays true of the iterator's objects through the loop
  have stat : ∀ {H' : Hp}, (∀ b ∈ fp, H' b = none) → ∀ b ∈ fp, FpOk X pins H' b := fun hn b hb => ⟨hn b hb, (f2 b hb).2⟩
  refine codeAny_forLoop_any (fun n s' => ∃ i σ' H', Inv X pins σ' H' s' ∧ tn i s'.heap ∧ (∀ b ∈ fp, H' b = none) ∧ W i n σ' H') ?_ m0 ⟨0, σ, H2, I2, st2, fun b hb => (f2 b hb).1, w0⟩
  rintro n s3 ⟨i, σ3, H3, I3, st3, fr3, w3⟩
  rcases turn i n σ3 H3 w3 with ⟨stop, qn⟩ | ⟨go, N, hN, step⟩
  · refine wpAny_passesOwn hp (thn (T.done X rfl rfl rfl hc i pins s3 σ3 H3 X.xe I3 (stat fr3) st3 stop) fun r s4 ⟨hr, I4⟩ => ?_)
    subst hr
    exact wpAny_execs_nil ⟨σ3, H3, I4, qn⟩
  · refine wpAny_passesOwn hp (thn (T.item X rfl rfl rfl hc i pins s3 σ3 H3 X.xe I3 (stat fr3) st3 go) fun r s4 ⟨u, hr, h4⟩ => ?_)
    subst hr
    refine wpAny_passesOwn hp (thn h4 fun _ s5 ⟨x, H5, I5, r5, y5, st5, fr5⟩ => ?_)
    have I5' := I5.pinned (stat fr5) (T.obj _ _ st5)
    refine wpAny_passesOwn hp (thn (hg _ s5 σ3 H5 x u _ I5' r5 (step x H5 y5)) fun _ s6 ⟨σ6, H6, I6, q6⟩ => ?_)
    refine wpAny_passesOwn hp (thn (hb _ s6 σ6 H6 _ I6 q6) fun f s7 q7 => ?_)
    have again : ∀ {σ7 : St} {H7 : Hp}, Inv X (pins ++ pinsAt fp s5.heap) σ7 H7 s7 → N σ7 H7 → ∃ m, m < n ∧ ∃ i σ' H', Inv X pins σ' H' s7 ∧ tn i s7.heap ∧ (∀ b ∈ fp, H' b = none) ∧ W i m σ' H' := fun {σ7 H7} I7 n7 => by
      obtain ⟨m', hm, w7⟩ := hN σ7 H7 n7
      refine ⟨m', hm, i + 1, σ7, H7, I7.unpinned, T.keep _ _ _ st5 fun b hb o e => (I7.pin (b, o) (List.mem_append_right _ (List.mem_append_right _ (mem_pinsAt hb e)))).1, fun b hb => ?_, w7⟩
      obtain ⟨o, e, d⟩ := T.obj _ _ st5 b hb
      exact (I7.pin (b, o) (List.mem_append_right _ (List.mem_append_right _ (mem_pinsAt hb e)))).2.1
    cases f with
    | next => obtain ⟨σ7, H7, I7, n7⟩ := q7; exact again I7 n7
    | cont => obtain ⟨σ7, H7, I7, n7⟩ := q7; exact again I7 n7
    | brk => obtain ⟨σ7, H7, I7, q7⟩ := q7; exact ⟨σ7, H7, I7.unpinned, q7⟩
    | ret v => obtain ⟨x7, σ7, H7, I7, r7, q7⟩ := q7; exact ⟨x7, σ7, H7, I7.unpinned, r7, q7⟩
end

theorem for_list {K : PySem.W.Frag} {a : Addr} {xs : List V} {g : TG} {tb : TS} {D : Ends} {σ : St} {H : Hp} (Pv : Nat → St → Hp → Prop) (h0 : Pv 0 σ H) (hl : ∀ i σ H, i ≤ xs.length → Pv i σ H → SqL K H a xs)
    (hs : ∀ i x σ H, xs[i]? = some x → Pv i σ H → g x σ H fun σ2 H2 => tb { D with nx := Pv (i + 1), ct := Pv (i + 1), bk := D.nx } σ2 H2) (hd : ∀ σ H, Pv xs.length σ H → D.nx σ H) :
    ∃ W : Nat → Nat → St → Hp → Prop, (∃ m, W 0 m σ H) ∧ ∀ i m σ H, W i m σ H →
      ((Itl K a).stop i H ∧ D.nx σ H) ∨ ((Itl K a).go i H ∧ ∃ N : St → Hp → Prop, (∀ σ' H', N σ' H' → ∃ m', m' < m ∧ W (i + 1) m' σ' H') ∧ ∀ x H', (Itl K a).yld i H x H' → g x σ H' fun σ2 H2 => tb { D with nx := N, ct := N, bk := D.nx } σ2 H2) := by
  refine ⟨fun i m σ H => m = xs.length - i ∧ i ≤ xs.length ∧ Pv i σ H, ⟨xs.length, by simp, Nat.zero_le _, h0⟩, ?_⟩
  rintro i m σ H ⟨rfl, hi, p⟩
  have q := hl i σ H hi p
  by_cases hlt : i < xs.length
  · refine .inr ⟨⟨xs, xs[i], q, by simp [hlt]⟩, Pv (i + 1), fun σ' H' p' => ⟨xs.length - (i + 1), by omega, rfl, hlt, p'⟩, fun x H' y => ?_⟩
    obtain ⟨e, y⟩ := y
    subst e
    exact hs i x σ _ (y xs q) p
  · have e : i = xs.length := by omega
    subst e
    exact .inl ⟨⟨xs, q, Nat.le_refl _⟩, hd σ H p⟩
theorem for_tup {K : PySem.W.Frag} {a : Addr} {xs : List V} {g : TG} {tb : TS} {D : Ends} {σ : St} {H : Hp} (Pv : Nat → St → Hp → Prop) (h0 : Pv 0 σ H) (hl : ∀ i σ H, i ≤ xs.length → Pv i σ H → SqT K H a xs)
    (hs : ∀ i x σ H, xs[i]? = some x → Pv i σ H → g x σ H fun σ2 H2 => tb { D with nx := Pv (i + 1), ct := Pv (i + 1), bk := D.nx } σ2 H2) (hd : ∀ σ H, Pv xs.length σ H → D.nx σ H) :
    ∃ W : Nat → Nat → St → Hp → Prop, (∃ m, W 0 m σ H) ∧ ∀ i m σ H, W i m σ H →
      ((Itt K a).stop i H ∧ D.nx σ H) ∨ ((Itt K a).go i H ∧ ∃ N : St → Hp → Prop, (∀ σ' H', N σ' H' → ∃ m', m' < m ∧ W (i + 1) m' σ' H') ∧ ∀ x H', (Itt K a).yld i H x H' → g x σ H' fun σ2 H2 => tb { D with nx := N, ct := N, bk := D.nx } σ2 H2) := by
  refine ⟨fun i m σ H => m = xs.length - i ∧ i ≤ xs.length ∧ Pv i σ H, ⟨xs.length, by simp, Nat.zero_le _, h0⟩, ?_⟩
  rintro i m σ H ⟨rfl, hi, p⟩
  have q := hl i σ H hi p
  by_cases hlt : i < xs.length
  · refine .inr ⟨⟨xs, xs[i], q, by simp [hlt]⟩, Pv (i + 1), fun σ' H' p' => ⟨xs.length - (i + 1), by omega, rfl, hlt, p'⟩, fun x H' y => ?_⟩
    obtain ⟨e, y⟩ := y
    subst e
    exact hs i x σ _ (y xs q) p
  · have e : i = xs.length := by omega
    subst e
    exact .inl ⟨⟨xs, q, Nat.le_refl _⟩, hd σ H p⟩
theorem for_range {lo : Int} {n : Nat} {g : TG} {tb : TS} {D : Ends} {σ : St} {H : Hp} (Pv : Nat → St → Hp → Prop) (h0 : Pv 0 σ H)
    (hs : ∀ i σ H, i < n → Pv i σ H → g (.int (lo + i)) σ H fun σ2 H2 => tb { D with nx := Pv (i + 1), ct := Pv (i + 1), bk := D.nx } σ2 H2) (hd : ∀ σ H, Pv n σ H → D.nx σ H) :
    ∃ W : Nat → Nat → St → Hp → Prop, (∃ m, W 0 m σ H) ∧ ∀ i m σ H, W i m σ H →
      ((Itr lo n).stop i H ∧ D.nx σ H) ∨ ((Itr lo n).go i H ∧ ∃ N : St → Hp → Prop, (∀ σ' H', N σ' H' → ∃ m', m' < m ∧ W (i + 1) m' σ' H') ∧ ∀ x H', (Itr lo n).yld i H x H' → g x σ H' fun σ2 H2 => tb { D with nx := N, ct := N, bk := D.nx } σ2 H2) := by
  refine ⟨fun i m σ H => m = n - i ∧ i ≤ n ∧ Pv i σ H, ⟨n, by simp, Nat.zero_le _, h0⟩, ?_⟩
  rintro i m σ H ⟨rfl, hi, p⟩
  by_cases hlt : i < n
  · refine .inr ⟨hlt, Pv (i + 1), fun σ' H' p' => ⟨n - (i + 1), by omega, rfl, hlt, p'⟩, fun x H' y => ?_⟩
    obtain ⟨e, y⟩ := y
    subst e y
    exact hs i σ _ hlt p
  · have e : i = n := by omega
    subst e
    exact .inl ⟨Nat.le_refl _, hd σ H p⟩
end L2

namespace L2
open PySem PySem.Spec PyProof.Rows

abbrev R2 := V → V → Hp → VK → Prop
def OpR (X : Cx) (f : Value → Value → Sem Value) (r : R2) : Prop :=
  ∀ (pins : List (Addr × Obj)) (s : Shared) (σ : St) (H : Hp) (x y : V) (v u : Value) (Q : VK), Inv X pins σ H s → RelV x v → RelV y u → r x y H Q →
    wpAny (model X.prog X.w) X.A (f v u) (EP X pins σ Q) X.xe s
def UnR (X : Cx) (f : Value → Sem Value) (r : V → Hp → VK → Prop) : Prop :=
  ∀ (pins : List (Addr × Obj)) (s : Shared) (σ : St) (H : Hp) (x : V) (v : Value) (Q : VK), Inv X pins σ H s → RelV x v → r x H Q →
    wpAny (model X.prog X.w) X.A (f v) (EP X pins σ Q) X.xe s
def CallR (X : Cx) (f : Value) (r : List V → Hp → VK → Prop) : Prop :=
  ∀ (pins : List (Addr × Obj)) (s : Shared) (σ : St) (H : Hp) (xs : List V) (us : List Value) (Q : VK), Inv X pins σ H s → Vals xs us → r xs H Q →
    wpAny (model X.prog X.w) X.A (call f us) (EP X pins σ Q) X.xe s
def TruR (X : Cx) (r : V → Hp → (Bool → Hp → Prop) → Prop) : Prop :=
  ∀ (pins : List (Addr × Obj)) (s : Shared) (σ : St) (H : Hp) (x : V) (v : Value) (Q : Bool → Hp → Prop), Inv X pins σ H s → RelV x v → r x H Q →
    wpAny (model X.prog X.w) X.A (truthy v) (TP X pins σ Q) X.xe s

def tOp (r : R2) (ta tb : TE) : TE := fun σ H Q => ta σ H fun x H1 => tb σ H1 fun y H2 => r x y H2 Q
def tUn (r : V → Hp → VK → Prop) (ta : TE) : TE := fun σ H Q => ta σ H fun x H1 => r x H1 Q
def rI (C : Int → Int → Prop) (g : Int → Int → V) : R2 := fun x y H Q => ∃ i j, x = .int i ∧ y = .int j ∧ C i j ∧ Q (g i j) H
def rI0 (g : Int → Int → V) : R2 := fun x y H Q => ∃ i j, x = .int i ∧ y = .int j ∧ Q (g i j) H
def rU (g : Int → V) : V → Hp → VK → Prop := fun x H Q => ∃ i, x = .int i ∧ Q (g i) H

section
variable {X : Cx} {a b c : Expr} {ta tb tc : TE} {pos : Pos}

theorem binT (ha : PE X a ta) (hb : PE X b tb) {pins : List (Addr × Obj)} {s : Shared} {σ : St} {H : Hp} {R : V → V → Hp → Prop} (I : Inv X pins σ H s)
    (h : ta σ H fun x H1 => tb σ H1 fun y H2 => R x y H2) {Q : Value → Shared → Prop} {f : Value → Value → Sem Value}
    (hf : ∀ v u s2 x y H2, Inv X pins σ H2 s2 → RelV x v → RelV y u → R x y H2 → wpAny (model X.prog X.w) X.A (f v u) Q X.xe s2) :
    wpAny (model X.prog X.w) X.A (eval a X.env) (fun v s₁ => wpAny (model X.prog X.w) X.A (eval b X.env) (fun u s₂ => wpAny (model X.prog X.w) X.A (f v u) Q X.xe s₂) X.xe s₁) X.xe s := by
  refine thn (ha pins s σ H _ I h) fun v s1 ⟨x, H1, I1, r1, q1⟩ => ?_
  refine thn (hb pins s1 σ H1 _ I1 q1) fun u s2 ⟨y, H2, I2, r2, q2⟩ => ?_
  exact hf v u s2 x y H2 I2 r1 r2 q2

theorem pe_op {op : Operator} {r : R2} (ho : OpR X (binaryOp op) r) (ha : PE X a ta) (hb : PE X b tb) : PE X (.BinOp a op b pos) (tOp r ta tb) := by
  intro pins s σ H Q I h
  exact wpAny_BinOp (binT ha hb I h fun v u s2 x y H2 I2 rx ry q => ho pins s2 σ H2 x y v u Q I2 rx ry q)
theorem pe_un {op : UnaryOp} {r : V → Hp → VK → Prop} (ho : UnR X (unaryOp op) r) (ha : PE X a ta) : PE X (.UnaryOp op a pos) (tUn r ta) := by
  intro pins s σ H Q I h
  exact UnaryOp_ (thn (ha pins s σ H _ I h) fun v s1 ⟨x, H1, I1, r1, q1⟩ => ho pins s1 σ H1 x v Q I1 r1 q1)

theorem opI {f : Value → Value → Sem Value} {C : Int → Int → Prop} {g : Int → Int → Int}
    (rule : ∀ (i j : Int) (t u : Tok) (s : Shared) (Q : Value → Shared → Prop) (E : Value → Shared → Prop), C i j → Q (.int (g i j) s.toks) { s with toks := s.toks + 1 } → wpAny (model X.prog X.w) X.A (f (.int i t) (.int j u)) Q E s) :
    OpR X f (rI C fun i j => .int (g i j)) := by
  intro pins s σ H x y v u Q I rx ry h
  obtain ⟨i, j, rfl, rfl, hc, q⟩ := h
  obtain ⟨t, rfl⟩ := rx
  obtain ⟨t', rfl⟩ := ry
  exact rule i j t t' s _ _ hc ⟨.int (g i j), H, I.tok _, ⟨_, rfl⟩, q⟩
theorem opI0 {f : Value → Value → Sem Value} {g : Int → Int → Int}
    (rule : ∀ (i j : Int) (t u : Tok) (s : Shared) (Q : Value → Shared → Prop) (E : Value → Shared → Prop), Q (.int (g i j) s.toks) { s with toks := s.toks + 1 } → wpAny (model X.prog X.w) X.A (f (.int i t) (.int j u)) Q E s) :
    OpR X f (rI0 fun i j => .int (g i j)) := by
  intro pins s σ H x y v u Q I rx ry h
  obtain ⟨i, j, rfl, rfl, q⟩ := h
  obtain ⟨t, rfl⟩ := rx
  obtain ⟨t', rfl⟩ := ry
  exact rule i j t t' s _ _ ⟨.int (g i j), H, I.tok _, ⟨_, rfl⟩, q⟩
theorem opB0 {f : Value → Value → Sem Value} {g : Int → Int → Bool}
    (rule : ∀ (i j : Int) (t u : Tok) (s : Shared) (Q : Value → Shared → Prop) (E : Value → Shared → Prop), Q (.bool (g i j)) s → wpAny (model X.prog X.w) X.A (f (.int i t) (.int j u)) Q E s) :
    OpR X f (rI0 fun i j => .bl (g i j)) := by
  intro pins s σ H x y v u Q I rx ry h
  obtain ⟨i, j, rfl, rfl, q⟩ := h
  obtain ⟨t, rfl⟩ := rx
  obtain ⟨t', rfl⟩ := ry
  exact rule i j t t' s _ _ ⟨.bl (g i j), H, I, rfl, q⟩

def CDiv (i j : Int) : Prop := 0 < j ∧ j < 1073741824
def CPow (i j : Int) : Prop := 0 ≤ j ∧ j ≤ 1000000 ∧ i.natAbs < 2 ^ 64
theorem two_pow_nn (k : Nat) : (0 : Int) ≤ 2 ^ k := by
  rw [two_pow_cast]
  exact Int.natCast_nonneg _

theorem op_add : OpR X (binaryOp .Add) (rI0 fun i j => .int (i + j)) := opI0 fun _ _ _ _ _ _ _ q => add_int q
theorem op_sub : OpR X (binaryOp .Sub) (rI0 fun i j => .int (i - j)) := opI0 fun _ _ _ _ _ _ _ q => sub_int q
theorem op_fdiv : OpR X (binaryOp .FloorDiv) (rI CDiv fun i j => .int (i / j)) := opI fun i j _ _ _ _ _ hc q => by
  have h1 : (0 : Int) < j := hc.1
  have h2 : j < 1073741824 := hc.2
  exact floordiv_int (by omega) (by rw [Int.fdiv_eq_ediv_of_nonneg i (by omega)]; exact q) (.inl (PyProof.noPylong_small (by omega)))
theorem op_mod : OpR X (binaryOp .Mod) (rI (fun _ j => 0 < j) fun i j => .int (i % j)) := opI fun i j _ _ _ _ _ hc q => by
  have h1 : (0 : Int) < j := hc
  exact mod_int' (by omega) (by rw [Int.fmod_eq_emod_of_nonneg i (by omega)]; exact q)
theorem op_shl : OpR X (binaryOp .LShift) (rI CPow fun i j => .int (i * 2 ^ j.toNat)) := opI fun _ _ _ _ _ _ _ hc q => lshift_int_small hc.1 hc.2.1 hc.2.2 q
theorem op_shr : OpR X (binaryOp .RShift) (rI (fun _ j => 0 ≤ j) fun i j => .int (i / 2 ^ j.toNat)) := opI fun i j _ _ _ _ _ hc q =>
  rshift_int hc (by rw [Int.fdiv_eq_ediv_of_nonneg i (two_pow_nn _)]; exact q)
theorem op_and : OpR X (binaryOp .BitAnd) (rI0 fun i j => .int (Builtin.bitAnd i j)) := opI0 fun _ _ _ _ _ _ _ q => and_int q
theorem op_or : OpR X (binaryOp .BitOr) (rI0 fun i j => .int (Builtin.bitOr i j)) := opI0 fun _ _ _ _ _ _ _ q => or_int q


theorem unI {f : Value → Sem Value} {g : Int → Int}
    (rule : ∀ (i : Int) (t : Tok) (s : Shared) (Q : Value → Shared → Prop) (E : Value → Shared → Prop), Q (.int (g i) s.toks) { s with toks := s.toks + 1 } → wpAny (model X.prog X.w) X.A (f (.int i t)) Q E s) :
    UnR X f (rU fun i => .int (g i)) := by
  intro pins s σ H x v Q I rx h
  obtain ⟨i, rfl, q⟩ := h
  obtain ⟨t, rfl⟩ := rx
  exact rule i t s _ _ ⟨.int (g i), H, I.tok _, ⟨_, rfl⟩, q⟩
theorem un_neg : UnR X (unaryOp .USub) (rU fun i => .int (-i)) := unI fun _ _ _ _ _ q => neg_int q

end

def scal : V → V → Bool
  | .non, .non => true | .non, .int _ => true | .int _, .non => true | .non, .bl _ => true | .bl _, .non => true | .non, .str _ => true | .str _, .non => true
  | .int _, .int _ => true | .bl _, .bl _ => true | .str _, .str _ => true | .byt _, .byt _ => true
  | .int _, .str _ => true | .str _, .int _ => true | .bl _, .str _ => true | .str _, .bl _ => true
  | _, _ => false
def rEq : R2 := fun x y H Q => scal x y = true ∧ Q (.bl (decide (x = y))) H
def rNe : R2 := fun x y H Q => scal x y = true ∧ Q (.bl (!decide (x = y))) H

theorem dec_int {i j : Int} : decide (V.int i = V.int j) = (i == j) := by
  rw [Bool.eq_iff_iff]
  simp
theorem dec_bl {i j : Bool} : decide (V.bl i = V.bl j) = (i == j) := by
  rw [Bool.eq_iff_iff]
  simp
theorem dec_str {i j : Str} : decide (V.str i = V.str j) = (i == j) := by
  rw [Bool.eq_iff_iff]
  simp
theorem dec_byt {i j : Array UInt8} : decide (V.byt i = V.byt j) = (i.toList == j.toList) := by
  rw [Bool.eq_iff_iff]
  cases i
  cases j
  simp

section
variable {X : Cx} {a b c : Expr} {ta tb tc : TE} {pos : Pos}
theorem fin_bl {pins : List (Addr × Obj)} {σ : St} {H : Hp} {s : Shared} {Q : VK} {k k' : Bool} (I : Inv X pins σ H s) (q : Q (.bl k) H) (e : k = k') : EP X pins σ Q (.bool k') s := by
  subst e
  exact ⟨.bl k, H, I, rfl, q⟩
theorem op_eq : OpR X (compareOp .Eq) rEq := by
  intro pins s σ H x y v u Q I rx ry h
  obtain ⟨hs, q⟩ := h
  cases x with
  | non =>
    cases rx
    cases y with
    | non => cases ry; exact PySem.EqNone.eq_none_none (fin_bl I q (by simp))
    | bl j => cases ry; exact PySem.EqNone.eq_none_bool (fin_bl I q (by simp))
    | int j => obtain ⟨t', rfl⟩ := ry; exact PySem.EqNone.eq_none_int (fin_bl I q (by simp))
    | str j => obtain ⟨t', rfl⟩ := ry; exact PySem.EqNone.eq_none_str (fin_bl I q (by simp))
    | _ => exact absurd (show false = true from hs) Bool.false_ne_true
  | bl i =>
    cases rx
    cases y with
    | non => cases ry; exact PySem.EqNone.eq_bool_none (fin_bl I q (by simp))
    | bl j => cases ry; exact eq_bool (fin_bl I q dec_bl)
    | str j => obtain ⟨t', rfl⟩ := ry; exact PySem.EqMixed.eq_bool_str (fin_bl I q (by simp))
    | _ => exact absurd (show false = true from hs) Bool.false_ne_true
  | int i =>
    obtain ⟨t, rfl⟩ := rx
    cases y with
    | non => cases ry; exact PySem.EqNone.eq_int_none (fin_bl I q (by simp))
    | int j => obtain ⟨t', rfl⟩ := ry; exact eq_int (fin_bl I q dec_int)
    | str j => obtain ⟨t', rfl⟩ := ry; exact PySem.EqMixed.eq_int_str (fin_bl I q (by simp))
    | _ => exact absurd (show false = true from hs) Bool.false_ne_true
  | str i =>
    obtain ⟨t, rfl⟩ := rx
    cases y with
    | non => cases ry; exact PySem.EqNone.eq_str_none (fin_bl I q (by simp))
    | bl j => cases ry; exact PySem.EqMixed.eq_str_bool (fin_bl I q (by simp))
    | int j => obtain ⟨t', rfl⟩ := ry; exact PySem.EqMixed.eq_str_int (fin_bl I q (by simp))
    | str j => obtain ⟨t', rfl⟩ := ry; exact eq_str (fin_bl I q dec_str)
    | _ => exact absurd (show false = true from hs) Bool.false_ne_true
  | byt i =>
    obtain ⟨t, rfl⟩ := rx
    cases y with
    | byt j => obtain ⟨t', rfl⟩ := ry; exact PySem.W.eq_bytes (fin_bl I q dec_byt)
    | _ => exact absurd (show false = true from hs) Bool.false_ne_true
  | _ => cases y <;> exact absurd (show false = true from hs) Bool.false_ne_true
theorem op_ne : OpR X (compareOp .NotEq) rNe := by
  intro pins s σ H x y v u Q I rx ry h
  obtain ⟨hs, q⟩ := h
  cases x with
  | non =>
    cases rx
    cases y with
    | non => cases ry; exact PySem.EqNone.ne_none_none (fin_bl I q (by simp))
    | bl j => cases ry; exact PySem.EqNone.ne_none_bool (fin_bl I q (by simp))
    | int j => obtain ⟨t', rfl⟩ := ry; exact PySem.EqNone.ne_none_int (fin_bl I q (by simp))
    | str j => obtain ⟨t', rfl⟩ := ry; exact PySem.EqNone.ne_none_str (fin_bl I q (by simp))
    | _ => exact absurd (show false = true from hs) Bool.false_ne_true
  | bl i =>
    cases rx
    cases y with
    | non => cases ry; exact PySem.EqNone.ne_bool_none (fin_bl I q (by simp))
    | bl j => cases ry; exact ne_bool (fin_bl I q (congrArg not dec_bl))
    | str j => obtain ⟨t', rfl⟩ := ry; exact PySem.EqMixed.ne_bool_str (fin_bl I q (by simp))
    | _ => exact absurd (show false = true from hs) Bool.false_ne_true
  | int i =>
    obtain ⟨t, rfl⟩ := rx
    cases y with
    | non => cases ry; exact PySem.EqNone.ne_int_none (fin_bl I q (by simp))
    | int j => obtain ⟨t', rfl⟩ := ry; exact ne_int (fin_bl I q (congrArg not dec_int))
    | str j => obtain ⟨t', rfl⟩ := ry; exact PySem.EqMixed.ne_int_str (fin_bl I q (by simp))
    | _ => exact absurd (show false = true from hs) Bool.false_ne_true
  | str i =>
    obtain ⟨t, rfl⟩ := rx
    cases y with
    | non => cases ry; exact PySem.EqNone.ne_str_none (fin_bl I q (by simp))
    | bl j => cases ry; exact PySem.EqMixed.ne_str_bool (fin_bl I q (by simp))
    | int j => obtain ⟨t', rfl⟩ := ry; exact PySem.EqMixed.ne_str_int (fin_bl I q (by simp))
    | str j => obtain ⟨t', rfl⟩ := ry; exact ne_str (fin_bl I q (congrArg not dec_str))
    | _ => exact absurd (show false = true from hs) Bool.false_ne_true
  | byt i =>
    obtain ⟨t, rfl⟩ := rx
    cases y with
    | byt j => obtain ⟨t', rfl⟩ := ry; exact PySem.W.ne_bytes (fin_bl I q (congrArg not dec_byt))
    | _ => exact absurd (show false = true from hs) Bool.false_ne_true
  | _ => cases y <;> exact absurd (show false = true from hs) Bool.false_ne_true

theorem op_lt : OpR X (compareOp .Lt) (rI0 fun i j => .bl (decide (i < j))) := opB0 fun _ _ _ _ _ _ _ q => lt_int q
theorem op_le : OpR X (compareOp .LtE) (rI0 fun i j => .bl (decide (i ≤ j))) := opB0 fun _ _ _ _ _ _ _ q => le_int q
theorem op_gt : OpR X (compareOp .Gt) (rI0 fun i j => .bl (decide (j < i))) := opB0 fun _ _ _ _ _ _ _ q => gt_int q
theorem op_ge : OpR X (compareOp .GtE) (rI0 fun i j => .bl (decide (j ≤ i))) := opB0 fun _ _ _ _ _ _ _ q => ge_int q

theorem op_isN : OpR X (compareOp .Is) (fun x y H Q => y = .non ∧ Q (.bl (decide (x = .non))) H) := by
  intro pins s σ H x y v u Q I rx ry h
  obtain ⟨rfl, q⟩ := h
  cases ry
  refine is_none_gen (fin_bl I q ?_)
  cases x <;> first
    | (cases rx; rfl)
    | (obtain ⟨t, rfl⟩ := rx; rfl)
theorem op_notN : OpR X (compareOp .IsNot) (fun x y H Q => y = .non ∧ Q (.bl (!decide (x = .non))) H) := by
  intro pins s σ H x y v u Q I rx ry h
  obtain ⟨rfl, q⟩ := h
  cases ry
  refine isnot_none_gen (fin_bl I q ?_)
  cases x <;> first
    | (cases rx; rfl)
    | (obtain ⟨t, rfl⟩ := rx; rfl)



theorem nomark (b : Expr) {op : CmpOp} (h : op ≠ .In := by decide) (h2 : op ≠ .NotIn := by decide) : behindInMarks op b = false := by
  have e1 : (op == CmpOp.In) = false := by cases op <;> first | rfl | exact absurd rfl h
  have e2 : (op == CmpOp.NotIn) = false := by cases op <;> first | rfl | exact absurd rfl h2
  cases b <;> simp [behindInMarks, e1, e2]
theorem pe_cmpR {op : CmpOp} {r : R2} (ho : OpR X (compareOp op) r) (ha : PE X a ta) (hb : PE X b tb) (hm : behindInMarks op b = false) : PE X (.Compare a [op] [b] pos) (tOp r ta tb) := by
  intro pins s σ H Q I h
  exact wpAny_Compare1 (binT ha hb I h fun v u s2 x y H2 I2 rx ry q => ho pins s2 σ H2 x y v u Q I2 rx ry q) hm
def tTest (t : TE) : TT := fun σ H Q => t σ H fun x H' => ∃ k, x = .bl k ∧ Q k H'
theorem pt_cmpR {op : CmpOp} {r : R2} (ho : OpR X (compareOp op) r) (ha : PE X a ta) (hb : PE X b tb) (hm : behindInMarks op b = false) : PT X (.Compare a [op] [b] pos) (tTest (tOp r ta tb)) := by
  intro pins s σ H Q I h
  refine wpAny_isTrue_Compare1 (thn (ha pins s σ H _ I h) fun v s1 ⟨x, H1, I1, r1, q1⟩ => thn (hb pins s1 σ H1 _ I1 q1) fun u s2 ⟨y, H2, I2, r2, q2⟩ =>
    thn (ho pins s2 σ H2 x y v u _ I2 r1 r2 q2) fun c s3 ⟨z, H3, I3, r3, k, e, q3⟩ => ?_) hm
  subst e
  cases r3
  exact wpAny_truthy_bool ⟨H3, I3, q3⟩
def tChain (r r' : R2) (ta tb tc : TE) : TE := fun σ H Q => ta σ H fun x H1 => tb σ H1 fun y H2 => r x y H2 fun z H3 => ∃ k, z = .bl k ∧
  (if k = true then tc σ H3 fun w' H4 => r' y w' H4 Q else Q (.bl false) H3)
theorem pe_chain {op op' : CmpOp} {r r' : R2} (ho : OpR X (compareOp op) r) (ho' : OpR X (compareOp op') r') (ha : PE X a ta) (hb : PE X b tb) (hc : PE X c tc)
    (hm : lastMarks [op, op'] [b, c] = false := by with_unfolding_all rfl) : PE X (.Compare a [op, op'] [b, c] pos) (tChain r r' ta tb tc) := by
  intro pins s σ H Q I h
  refine Compare_chain (thn (ha pins s σ H _ I h) fun v s1 ⟨x, H1, I1, r1, q1⟩ => chain_link (thn (hb pins s1 σ H1 _ I1 q1) fun u s2 ⟨y, H2, I2, r2, q2⟩ =>
    thn (ho pins s2 σ H2 x y v u _ I2 r1 r2 q2) fun d s3 ⟨z, H3, I3, r3, k, e, q3⟩ => ?_)) hm
  subst e
  cases r3
  refine wpAny_truthy_bool ?_
  cases k with
  | false => exact ite_ff ⟨.bl false, H3, I3, rfl, q3⟩
  | true => exact ite_tt (chain_last (thn (hc pins s3 σ H3 _ I3 q3) fun w' s4 ⟨z', H4, I4, r4, q4⟩ => ho' pins s4 σ H4 y z' u w' Q I4 r2 r4 q4))
theorem pt_chain {op op' : CmpOp} {r r' : R2} (ho : OpR X (compareOp op) r) (ho' : OpR X (compareOp op') r') (ha : PE X a ta) (hb : PE X b tb) (hc : PE X c tc)
    (hm : lastMarks [op, op'] [b, c] = false := by with_unfolding_all rfl) : PT X (.Compare a [op, op'] [b, c] pos) (tTest (tChain r r' ta tb tc)) := by
  intro pins s σ H Q I h
  refine isTrue_chain (thn (ha pins s σ H _ I h) fun v s1 ⟨x, H1, I1, r1, q1⟩ => test_link (thn (hb pins s1 σ H1 _ I1 q1) fun u s2 ⟨y, H2, I2, r2, q2⟩ =>
    thn (ho pins s2 σ H2 x y v u _ I2 r1 r2 q2) fun d s3 ⟨z, H3, I3, r3, k, e, q3⟩ => ?_)) hm
  subst e
  cases r3
  refine wpAny_truthy_bool ?_
  cases k with
  | false =>
    obtain ⟨k', e', q'⟩ := q3
    cases e'
    exact ite_ff ⟨H3, I3, q'⟩
  | true =>
    refine ite_tt (test_last (thn (hc pins s3 σ H3 _ I3 q3) fun w' s4 ⟨z', H4, I4, r4, q4⟩ => thn (ho' pins s4 σ H4 y z' u w' _ I4 r2 r4 q4) fun d' s5 ⟨z2, H5, I5, r5, k2, e2, q5⟩ => ?_))
    subst e2
    cases r5
    exact wpAny_truthy_bool ⟨H5, I5, q5⟩

def TruV (K : PySem.W.Frag) (x : V) (H : Hp) (k : Bool) : Prop :=
  match x with
  | .non => k = false
  | .bl b => k = b
  | .int i => k = (i != 0)
  | .str y => y.length ≤ sizeLine ∧ k = ((y.length : Int) != 0)
  | .byt y => y.size ≤ sizeLine ∧ k = ((y.size : Int) != 0)
  | .ref p => (∃ xs, SqL K H p xs ∧ k = !xs.isEmpty) ∨ (∃ xs, SqT K H p xs ∧ k = !xs.isEmpty) ∨ ∃ kvs, H p = some (.dK kvs) ∧ k = !kvs.isEmpty
  | _ => False
theorem isEmpty_kv {κ : Type} {kvs : List (κ × V)} {vs : List (κ × Value)} (r : KV kvs vs) : (!vs.isEmpty) = !kvs.isEmpty := by
  cases r <;> rfl
theorem isEmpty_of {xs : List V} {its : List Value} (r : Vals xs its) : (!its.toArray.isEmpty) = !xs.isEmpty := by
  cases r <;> simp
theorem line63 : (sizeLine : Nat) < 2 ^ 63 := by rw [sizeLine_eq]; decide
theorem tru_ok : TruR X (fun x H Q => ∃ k, TruV X.K x H k ∧ Q k H) := by
  intro pins s σ H x v Q I rx h
  obtain ⟨k, e, q⟩ := h
  have hl := line63
  have hs : sizeLine = 16777216 := sizeLine_eq
  cases x with
  | non =>
    cases rx
    have e' : k = false := e
    subst e'
    exact truthy_none ⟨H, I, q⟩
  | bl b =>
    cases rx
    have e' : k = b := e
    subst e'
    exact wpAny_truthy_bool ⟨H, I, q⟩
  | int i =>
    obtain ⟨t, rfl⟩ := rx
    have e' : k = (i != 0) := e
    subst e'
    exact PySem.P.truthy_int ⟨H, I, q⟩
  | str y =>
    obtain ⟨t, rfl⟩ := rx
    obtain ⟨hy, e'⟩ : y.length ≤ sizeLine ∧ k = ((y.length : Int) != 0) := e
    subst e'
    exact PySem.P.truthy_str (by omega) ⟨H, I.tok _, q⟩
  | byt y =>
    obtain ⟨t, rfl⟩ := rx
    obtain ⟨hy, e'⟩ : y.size ≤ sizeLine ∧ k = ((y.size : Int) != 0) := e
    subst e'
    exact PySem.W.truthy_bytes (by omega) ⟨H, I.tok _, q⟩
  | ref p =>
    cases rx
    have e' : (∃ xs, SqL X.K H p xs ∧ k = !xs.isEmpty) ∨ (∃ xs, SqT X.K H p xs ∧ k = !xs.isEmpty) ∨ ∃ kvs, H p = some (.dK kvs) ∧ k = !kvs.isEmpty := e
    rcases e' with ⟨xs, hx, e'⟩ | ⟨xs, hx, e'⟩ | ⟨kvs, hx, e'⟩
    · subst e'
      obtain ⟨its, r, pl, hz⟩ := I.list hx
      have hlen := r.length
      exact wpAny_truthy_list pl.isList (by simp only [List.size_toArray]; omega) ⟨H, I.tok _, by rw [isEmpty_of r]; exact q⟩
    · subst e'
      obtain ⟨its, r, pl, hz⟩ := I.tuple hx
      have hlen := r.length
      exact truthy_tuple pl (by simp only [List.size_toArray]; omega) ⟨H, I.tok _, by rw [isEmpty_of r]; exact q⟩
    · subst e'
      obtain ⟨hz, hS, vs, r, m⟩ : kvs.length ≤ sizeLine ∧ (p == sysModules) = false ∧ ∃ vs, KV kvs vs ∧ s.heap.DictOf (mixKind X.prog X.w) p vs := I.hok p _ hx
      have hlen : kvs.length = vs.length := Paired.length r
      exact wpAny_truthy_dict hS m (by omega) ⟨H, I.tok _, by rw [isEmpty_kv r]; exact q⟩
  | _ => exact (show False from e).elim
theorem pt_truth (ha : PE X a ta) (he : ∀ whole, isTrue a X.env whole = (do let v ← whole; standAt a.pos; holding [v] (truthy v))) :
    PT X a (fun σ H Q => ta σ H fun x H' => ∃ k, TruV X.K x H' k ∧ Q k H') := by
  intro pins s σ H Q I h
  exact isTrue_plain (thn (ha pins s σ H _ I h) fun v s1 ⟨x, H1, I1, r1, q1⟩ => tru_ok pins s1 σ H1 x v Q I1 r1 q1) (he _)



theorem vals1 {x : V} {us : List Value} (r : Vals [x] us) : ∃ u, us = [u] ∧ RelV x u := by
  cases r with
  | cons r1 r2 => cases r2; exact ⟨_, rfl, r1⟩
theorem vals2 {x y : V} {us : List Value} (r : Vals [x, y] us) : ∃ u w', us = [u, w'] ∧ RelV x u ∧ RelV y w' := by
  cases r with
  | cons r1 r2 =>
    cases r2 with
    | cons r3 r4 => cases r4; exact ⟨_, _, rfl, r1, r3⟩
end
end L2

namespace L2
open PySem PySem.Spec PyProof.Rows

structure ObjM (h : Heap) (x dx C : Addr) (mA : Str → Option Value) : Prop where
  obj : h.get? x = some (PySem.W.instObj C dx)
  ns : h.Ns1 dx mA
  ne : dx ≠ x

theorem lookIn_ns {h : Heap} {dx : Addr} {mA : Str → Option Value} (n : h.Ns1 dx mA) : ∃ od, h.get? dx = some od ∧ ∀ name, PySem.W.lookIn name od = some (mA name) := by
  obtain ⟨o, es, ep, ho, hd, hk, _, hm⟩ := n
  refine ⟨o, ho, fun name => ?_⟩
  have e := hm name
  unfold nsFind findBy at e
  rw [← Array.find?_toList] at e
  unfold PySem.W.lookIn
  rw [hd]
  dsimp only
  split
  · rename_i y q
    rw [q] at e
    exact congrArg some e
  · rename_i q
    rw [q] at e
    have a : es.toList.any (·.refKey) = false := by
      rw [List.any_eq_false]
      intro y hy
      obtain ⟨z, t, hkey⟩ := hk y (Array.mem_toList_iff.mp hy)
      simp [DictEntry.refKey, hkey]
    have a' : ¬ es.toList.any (·.refKey) = true := by rw [a]; exact Bool.false_ne_true
    rw [if_neg a']
    exact congrArg some e

theorem ObjM.look {h : Heap} {x dx C : Addr} {mA : Str → Option Value} (I : ObjM h x dx C mA) : ∃ od, PySem.W.InstAt h x (PySem.W.instObj C dx) C (some od) ∧ ∀ name, PySem.W.lookIn name od = some (mA name) :=
  let ⟨od, ho, hl⟩ := lookIn_ns I.ns
  ⟨od, ⟨I.obj, rfl, rfl, ho⟩, hl⟩

section
variable {prog : Program} {w : World} {A : Around} {E : Value → Shared → Prop} {s : Shared} {K : PySem.W.Frag} {x dx C f : Addr} {mA : Str → Option Value} {name : Str} {v : Value}

theorem get_map {expr : Bool} {Q : Value → Shared → Prop} (X : K.In s.heap) (I : ObjM s.heap x dx C mA) (hg : PySem.W.plainGet K C name = true) (hh : PySem.W.hasDictIn K C = true)
    (ha : PySem.W.findIn K (.ref C) name = some none) (hv : mA name = some v) (hv' : PySem.W.handedIn v = true) (h : Q v { s with toks := s.toks + 1 }) :
    wpAny (model prog w) A (getAttr (.ref x) name expr) Q E s := by
  obtain ⟨od, J, hl⟩ := I.look
  exact PySem.W.get_value X J (PySem.W.plainGet_of hg).1 (PySem.W.findObj_own hh ha rfl (by rw [hl, hv])) hv' h


theorem get_meth {pl : Sem Bool} {Q : Value × List Value → Shared → Prop} (X : K.In s.heap) (I : ObjM s.heap x dx C mA) (hg : PySem.W.plainGet K C name = true)
    (hf : PySem.W.findIn K (.ref C) name = some (some (.ref f))) (ht : PySem.W.isFn K (.ref f) = true) (hv : mA name = none) (h : Q (.ref f, [.ref x]) s) :
    wpAny (model prog w) A (getMethod (.ref x) name pl) Q E s := by
  obtain ⟨od, J, hl⟩ := I.look
  exact PySem.W.method_fn X J (PySem.W.plainGet_of hg).1 (PySem.W.plainGet_of hg).2 hf (beq_iff_eq.mp ht) (by show (PySem.W.lookIn name od).map (·.isSome) = some false; rw [hl, hv]; rfl) h

theorem set_map {ns : List Str} {Q : Unit → Shared → Prop} (X : K.In s.heap) (I : ObjM s.heap x dx C mA)
    (hs : PySem.W.findIn K (.ref C) "__setattr__" = some (some (.builtin "object.__setattr__"))) (hp : PySem.W.plainOver K C = true) (ht : PySem.W.takerIn K C name = some none) (hh : PySem.W.hasDictIn K C = true)
    (hw : PySem.Within mA ns) (hsz : ns.length ≤ sizeLine)
    (h : ∀ h', ObjM h' x dx C (fun y => if y = name then some v else mA y) → Heap.SameBut dx s.heap h' → Q () { s with heap := h', toks := s.toks + 2 }) :
    wpAny (model prog w) A (setAttr (.ref x) name v) Q E s := by
  obtain ⟨od, J, hl⟩ := I.look
  refine PySem.W.set_plain X J hs (PySem.W.osa_open (s := { s with toks := s.toks + 1 }) (r := none) X J hp ht fun b => ?_)
  obtain ⟨cd, hc, hd'⟩ := PySem.W.any_some hh
  have hx : s.heap.get? x = some ⟨.ref C, some dx, .plain, #[]⟩ := I.obj
  refine wpAny_bind (wpAny_pure (wpAny_bind (wpAny_bind (wpAny_loadPart hx (wpAny_bind (PySem.W.Looks.here (s := { s with toks := s.toks + 1 }) (PySem.W.looks_clsIn X hc) ?_))))))
  rw [hd']
  refine wpAny_pure (a := some dx) (wpAny_bind (wpAny_pure (wpAny_bind ?_)))
  refine wpAny_nsSet1 (s := { s with toks := s.toks + 1 }) I.ns fun h' hn2 hs2 => ?_
  obtain ⟨oD, esD, epD, hoD, hdD, hcD⟩ := hn2.count (PySem.Within.cons name v hw)
  refine wpAny_bind (wpAny_lookBehind hoD (by rw [hdD]; exact pastItsLine_dict (Nat.le_trans hcD (by rw [List.length_cons]; omega))) ?_)
  exact wpAny_pure (h _ ⟨(hs2.2 _ (Ne.symm I.ne)).trans I.obj, hn2, I.ne⟩ hs2)

theorem make_map {R : Result → Shared → Prop} {vs : List Value} {kw : List (Str × Value)} (X : K.In s.heap) (hm : PySem.W.makesIn K C = true)
    (hi : PySem.W.findIn K (.ref C) "__init__" = some (some (.ref f))) (hf : PySem.W.typeIn K (.ref f) = some (.type "function"))
    (h : codeAny (model prog w) (A.under (.builtin "type.__call__" ⟨.ref C :: vs, kw⟩)) (.call (.ref f) ⟨.ref (s.heap.objs.size + 1) :: vs, kw⟩) (PySem.W.InitBack (s.heap.objs.size + 1) R)
      { s with heap := (s.heap.push PySem.W.emptyDict).push (PySem.W.instObj C s.heap.objs.size) }) :
    codeAny (model prog w) A (.call (.ref C) ⟨vs, kw⟩) R s := by
  obtain ⟨hh, g, d, t, os⟩ := s
  exact PySem.W.make_core (PySem.W.makes_of X hm) (PySem.W.looks_findIn X hi) (fun self => PySem.W.bind_fn X self hf) (.inl rfl) h
end

def putF (f : Str) (v : V) : List (Str × V) → List (Str × V)
  | [] => [(f, v)]
  | (g, x) :: r => if g = f then (g, v) :: r else (g, x) :: putF f v r
theorem lookup_putF (f g : Str) (v : V) : ∀ fs : List (Str × V), (putF f v fs).lookup g = if g = f then some v else fs.lookup g
  | [] => by
    show List.lookup g [(f, v)] = _
    by_cases h : g = f
    · have hb : (g == f) = true := beq_iff_eq.mpr h
      simp only [List.lookup, hb, if_pos h]
    · have hb : (g == f) = false := beq_eq_false_iff_ne.mpr h
      simp only [List.lookup, hb, if_neg h]
  | (k, x) :: r => by
    have ih := lookup_putF f g v r
    rw [show putF f v ((k, x) :: r) = (if k = f then (k, v) :: r else (k, x) :: putF f v r) from rfl]
    by_cases hk : k = f
    · rw [if_pos hk]
      by_cases h : g = k
      · have hb : (g == k) = true := beq_iff_eq.mpr h
        simp only [List.lookup, hb, if_pos (h.trans hk)]
      · have hb : (g == k) = false := beq_eq_false_iff_ne.mpr h
        simp only [List.lookup, hb, if_neg (fun e : g = f => h (e.trans hk.symm))]
    · rw [if_neg hk]
      by_cases h : g = k
      · have hb : (g == k) = true := beq_iff_eq.mpr h
        simp only [List.lookup, hb, if_neg (fun e : g = f => hk (h.symm.trans e))]
      · have hb : (g == k) = false := beq_eq_false_iff_ne.mpr h
        simp only [List.lookup, hb]
        exact ih
theorem keys_putF (f : Str) (v : V) : ∀ fs : List (Str × V), f ∈ (putF f v fs).map (·.1) ∧ ∀ g, g ∈ fs.map (·.1) → g ∈ (putF f v fs).map (·.1)
  | [] => ⟨by simp [putF], fun g h => by simp at h⟩
  | (k, x) :: r => by
    obtain ⟨i1, i2⟩ := keys_putF f v r
    rw [show putF f v ((k, x) :: r) = (if k = f then (k, v) :: r else (k, x) :: putF f v r) from rfl]
    by_cases hk : k = f
    · rw [if_pos hk]
      subst hk
      exact ⟨by simp, fun g h => by simpa using h⟩
    · rw [if_neg hk]
      refine ⟨?_, fun g h => ?_⟩
      · rw [List.map_cons]
        exact List.mem_cons_of_mem _ i1
      · rw [List.map_cons] at h ⊢
        rcases List.mem_cons.mp h with e | e
        · exact List.mem_cons.mpr (.inl e)
        · exact List.mem_cons_of_mem _ (i2 g e)
theorem length_putF (f : Str) (v : V) : ∀ fs : List (Str × V), (putF f v fs).length ≤ fs.length + 1
  | [] => by simp [putF]
  | (k, x) :: r => by
    have ih := length_putF f v r
    rw [show putF f v ((k, x) :: r) = (if k = f then (k, v) :: r else (k, x) :: putF f v r) from rfl]
    by_cases hk : k = f
    · rw [if_pos hk, List.length_cons, List.length_cons]; omega
    · rw [if_neg hk, List.length_cons, List.length_cons]; omega

theorem RelO.some_of {v : V} {o : Option Value} (r : RelO (some v) o) : ∃ u, o = some u ∧ RelV v u := by
  cases o with
  | none => exact (show False from r).elim
  | some u => exact ⟨u, rfl, r⟩
theorem RelO.none_of {o : Option Value} (r : RelO none o) : o = none := by
  cases o with
  | none => rfl
  | some u => exact (show False from r).elim
theorem handed_of {v : V} {u : Value} (r : RelV v u) : PySem.W.handedIn u = true := by
  cases v with
  | non => cases (show u = Value.none from r); rfl
  | bl b => cases (show u = Value.bool b from r); rfl
  | int i => obtain ⟨t, e⟩ := (show ∃ t, u = Value.int i t from r); cases e; rfl
  | str x => obtain ⟨t, e⟩ := (show ∃ t, u = Value.str x t from r); cases e; rfl
  | byt b => obtain ⟨t, e⟩ := (show ∃ t, u = Value.bytes b t from r); cases e; rfl
  | flt b => obtain ⟨t, e⟩ := (show ∃ t, u = Value.float b t from r); cases e; rfl
  | ref a => cases (show u = Value.ref a from r); rfl
  | ty n => cases (show u = Value.type n from r); rfl

section
variable {P : Program} {w : World} {H H' : Hp} {h h' : Heap} {a C dx : Addr} {fs fs' : List (Str × V)}
theorem ins_get (hok : HOk P w H h) (e : H a = some (.ins C dx fs)) : ∃ mA, ObjM h a dx C mA ∧ (∀ f, RelO (fs.lookup f) (mA f)) ∧ PySem.Within mA (fs.map (·.1)) ∧ fs.length ≤ 1000 ∧ H dx = some (.own a) := by
  obtain ⟨d, z, ne, ob, mA, n, r, q⟩ := (show ObjOk P w H h a (.ins C dx fs) from hok a _ e)
  exact ⟨mA, ⟨ob, n, ne⟩, r, q, z, d⟩
end

structure Cls (K : PySem.W.Frag) (C : Addr) : Prop where
  pg : PySem.W.plainGet K C Str.empty = true
  hd : PySem.W.hasDictIn K C = true
  po : PySem.W.plainOver K C = true
  sa : PySem.W.findIn K (.ref C) "__setattr__" = some (some (.builtin "object.__setattr__"))
theorem Cls.get {K : PySem.W.Frag} {C : Addr} (c : Cls K C) (f : Str) : PySem.W.plainGet K C f = true := c.pg
def NoAttr (K : PySem.W.Frag) (C : Addr) (f : Str) : Prop := PySem.W.findIn K (.ref C) f = some none
theorem NoAttr.taker {K : PySem.W.Frag} {C : Addr} {f : Str} (n : NoAttr K C f) : PySem.W.takerIn K C f = some none := by
  unfold PySem.W.takerIn
  rw [show PySem.W.findIn K (.ref C) f = some none from n]
  rfl
structure Meth (K : PySem.W.Frag) (C : Addr) (m : Str) (f : Addr) : Prop where
  at_ : PySem.W.findIn K (.ref C) m = some (some (.ref f))
  fn : PySem.W.isFn K (.ref f) = true
  kp : PySem.W.keepIn K (.ref f) = true

section
variable {X : Cx} {pins : List (Addr × Obj)} {σ : St} {H : Hp} {s : Shared} {a C dx : Addr} {fs : List (Str × V)} {f : Str} {v : V} {A : Around} {E : Value → Shared → Prop}

theorem getattr_ok {b : Bool} {Q : Value → Shared → Prop} (I : Inv X pins σ H s) (e : H a = some (.ins C dx fs)) (c : Cls X.K C) (n : NoAttr X.K C f) (l : fs.lookup f = some v)
    (h : ∀ u s', Inv X pins σ H s' → RelV v u → Q u s') : wpAny (model X.prog X.w) A (getAttr (.ref a) f b) Q E s := by
  obtain ⟨mA, O, r, _, _, _⟩ := ins_get I.hok e
  obtain ⟨u, hu, ru⟩ := RelO.some_of (v := v) (o := mA f) (by rw [← l]; exact r f)
  exact get_map I.kIn O (c.get f) c.hd n hu (handed_of ru) (h u _ (I.tok _) ru)


theorem getmeth_ok {m : Str} {g : Addr} {pl : Sem Bool} {Q : Value × List Value → Shared → Prop} (I : Inv X pins σ H s) (e : H a = some (.ins C dx fs)) (c : Cls X.K C) (k : Meth X.K C m g) (l : fs.lookup m = none)
    (h : Q (.ref g, [.ref a]) s) : wpAny (model X.prog X.w) A (getMethod (.ref a) m pl) Q E s := by
  obtain ⟨mA, O, r, _, _, _⟩ := ins_get I.hok e
  have hn : mA m = none := RelO.none_of (by rw [← l]; exact r m)
  exact get_meth I.kIn O (c.get m) k.at_ k.fn hn h

theorem setattr_ok {y : V} {u : Value} {Q : Unit → Shared → Prop} (I : Inv X pins σ H s) (e : H a = some (.ins C dx fs)) (c : Cls X.K C) (n : NoAttr X.K C f) (hl : fs.length < 1000) (ry : RelV y u)
    (h : ∀ s', Inv X pins σ (upd H a (.ins C dx (putF f y fs))) s' → Q () s') : wpAny (model X.prog X.w) A (setAttr (.ref a) f u) Q E s := by
  obtain ⟨mA, O, r, wi, _, ho⟩ := ins_get I.hok e
  have hz : (fs.map (·.1)).length ≤ sizeLine := by rw [List.length_map, sizeLine_eq]; omega
  refine set_map I.kIn O c.sa c.po n.taker c.hd wi hz fun h' O' sb => h _ ?_
  have hd : ∃ o, h'.get? dx = some o := let ⟨o, _, _, e', _⟩ := O'.ns; ⟨o, e'⟩
  refine I.write (x := a) (e := dx) (by rw [e]; exact True.intro) (.inr ho) (fun b q hb z => (sb.2 b hb).trans z) hd ?_
  refine ⟨by rw [upd_ne O.ne]; exact ho, ?_, O.ne, O'.obj, _, O'.ns, fun g => ?_, fun g hg => ?_⟩
  · have := length_putF f y fs; omega
  · show RelO ((putF f y fs).lookup g) (if g = f then some u else mA g)
    rw [lookup_putF]
    by_cases q : g = f
    · rw [if_pos q, if_pos q]; exact ry
    · rw [if_neg q, if_neg q]; exact r g
  · by_cases q : g = f
    · rw [q]; exact (keys_putF f y fs).1
    · refine (keys_putF f y fs).2 g (wi g fun z => hg ?_)
      show (if g = f then some u else mA g) = none
      rw [if_neg q]; exact z

theorem Inv.made (I : Inv X pins σ H s) : Inv X pins σ (upd (upd H s.heap.objs.size (.own (s.heap.objs.size + 1))) (s.heap.objs.size + 1) (.ins C s.heap.objs.size []))
    { s with heap := (s.heap.push PySem.W.emptyDict).push (PySem.W.instObj C s.heap.objs.size) } := by
  have e1 : (s.heap.push PySem.W.emptyDict).get? s.heap.objs.size = some PySem.W.emptyDict := Heap.get?_push_size s.heap rfl
  have e2 : ((s.heap.push PySem.W.emptyDict).push (PySem.W.instObj C s.heap.objs.size)).get? (s.heap.objs.size + 1) = some (PySem.W.instObj C s.heap.objs.size) := by
    have := Heap.get?_push_size (s.heap.push PySem.W.emptyDict) (o := PySem.W.instObj C s.heap.objs.size) rfl
    rwa [Heap.size_push] at this
  have e3 : (s.heap.push PySem.W.emptyDict).Ns s.heap.objs.size (fun _ => none) := ⟨PySem.W.emptyDict, #[], _, e1, rfl, (fun e he => absurd he (by simp)), fun _ => rfl⟩
  have I1 := I.laid (a := s.heap.objs.size) (o := .own (s.heap.objs.size + 1)) (h' := s.heap.push PySem.W.emptyDict) (t' := s.toks) (fun b u q => Heap.get?_push_of_some _ q) (Nat.le_refl _) ⟨_, e1⟩
  refine I1.laid (a := s.heap.objs.size + 1) (o := .ins C s.heap.objs.size []) (t' := s.toks) (fun b u q => Heap.get?_push_of_some _ q) (Nat.le_of_eq (Heap.size_push _ _)) ?_
  have ne : s.heap.objs.size ≠ s.heap.objs.size + 1 := Nat.ne_of_lt (Nat.lt_succ_self _)
  refine ⟨by rw [upd_ne ne, upd_same], Nat.zero_le _, ne, e2, fun _ => none, (Heap.Ns1.of_empty e3).at fun o q => Heap.get?_push_of_some _ q, fun _ => True.intro, fun y hy => absurd rfl hy⟩

theorem attr_of {prog : Program} {w : World} {env : Env} {e : Expr} {f : Str} {pos : Pos} {s : Shared} {Q : Value → Shared → Prop} (hb : attributeBase e f env (eval e env) = eval e env)
    (h : wpAny (model prog w) A (eval e env) (fun o s₁ => wpAny (model prog w) A (getAttr o f true) Q E s₁) E s) : wpAny (model prog w) A (eval (.Attribute e f pos) env) Q E s :=
  Attribute_any_ h (by rw [arm_eval_Attribute, hb])
end

def tFld (K : PySem.W.Frag) (ta : TE) (f : Str) : TE := fun σ H Q => ta σ H fun x H1 => ∃ a C dx fs v, x = .ref a ∧ H1 a = some (.ins C dx fs) ∧ Cls K C ∧ NoAttr K C f ∧ fs.lookup f = some v ∧ Q v H1
def sFld (K : PySem.W.Frag) (ta tv : TE) (f : Str) : TS := fun D σ H => tv σ H fun y H1 => ta σ H1 fun x H2 => ∃ a C dx fs, x = .ref a ∧ H2 a = some (.ins C dx fs) ∧ Cls K C ∧ NoAttr K C f ∧ fs.length < 1000 ∧
  D.nx σ (upd H2 a (.ins C dx (putF f y fs)))

section
variable {X : Cx} {o e value : Expr} {f : Str} {pos pos' tpos : Pos} {ta tv : TE}
theorem pe_fld (he : PE X e ta) (hb : attributeBase e f X.env (eval e X.env) = eval e X.env) : PE X (.Attribute e f pos) (tFld X.K ta f) := by
  intro pins s σ H Q I h
  refine attr_of hb (thn (he pins s σ H _ I h) fun u s1 ⟨x, H1, I1, rx, a, C, dx, fs, v, ex, ea, c, n, l, q⟩ => ?_)
  subst ex
  obtain rfl : u = Value.ref a := rx
  exact getattr_ok I1 ea c n l fun u' s2 I2 ru => ⟨v, H1, I2, ru, q⟩
theorem ps_fld (ha : PE X o ta) (hv : PE X value tv) (hs : swapsWith value (some (.Attribute o f pos')) pos.line X.env = pure false) : PS X (.Assign [.Attribute o f pos'] value pos) (sFld X.K ta tv f) := by
  intro pins s σ H D I h
  refine plainObj_wpAny_Assign_Attribute (thn (hv pins s σ H _ I h) fun u s1 ⟨y, H1, I1, ry, q⟩ => thn (ha pins s1 σ H1 _ I1 q) fun ov s2 ⟨x, H2, I2, rx, a, C, dx, fs, ex, ea, c, n, l, q2⟩ => ?_) hs
  subst ex
  obtain rfl : ov = Value.ref a := rx
  exact setattr_ok I2 ea c n l ry fun s3 I3 => ⟨σ, _, I3, q2⟩

theorem methcall_of {pl : Sem Bool} {m : Str} {apos : Pos} {args : List Expr} {pins : List (Addr × Obj)} {s : Shared} {σ : St} {H : Hp} {Q : Value → Shared → Prop} {te : TE} (he : PE X e te) (I : Inv X pins σ H s)
    (h : te σ H fun x H1 => ∃ a C dx fs g, x = .ref a ∧ H1 a = some (.ins C dx fs) ∧ Cls X.K C ∧ Meth X.K C m g ∧ fs.lookup m = none ∧
      ∀ s1, Inv X pins σ H1 s1 → wpAny (model X.prog X.w) X.A (callWith pos (.ref g) [.ref a] (backTo pos (starEach args X.env)) (backToKw pos (keywordEach [] X.env))) Q X.xe s1)
    (ht : eval (.Call (.Attribute e m apos) args [] pos) X.env = (do
      let ov ← eval e X.env
      standAt apos.atName
      let (f, first) ← holding [ov] (getMethod ov m pl)
      callWith pos f first (backTo pos (starEach args X.env)) (backToKw pos (keywordEach [] X.env)))) :
    wpAny (model X.prog X.w) X.A (eval (.Call (.Attribute e m apos) args [] pos) X.env) Q X.xe s := by
  refine PySem.W.methodCall_KW (pl := pl) (thn (he pins s σ H _ I h) fun u s1 ⟨x, H1, I1, rx, a, C, dx, fs, g, ex, ea, c, k, l, q⟩ => ?_) ht
  subst ex
  obtain rfl : u = Value.ref a := rx
  exact getmeth_ok I1 ea c k l (q s1 I1)
end

section
variable {X : Cx} {pins : List (Addr × Obj)} {σ : St} {H : Hp} {s : Shared} {A : Around} {E : Value → Shared → Prop} {Q : Value → Shared → Prop} {c : Value} {b : Bool}
inductive TyOf (K : PySem.W.Frag) (H : Hp) : V → Value → Prop where
  | non : TyOf K H .non (.type "NoneType")
  | bl (x : Bool) : TyOf K H (.bl x) (.type "bool")
  | int (i : Int) : TyOf K H (.int i) (.type "int")
  | str (x : Str) : TyOf K H (.str x) (.type "str")
  | flt (x : UInt64) : TyOf K H (.flt x) (.type "float")
  | lst {a : Addr} {xs : List V} (e : H a = some (.lst xs)) : TyOf K H (.ref a) (.type "list")
  | frz {a : Addr} {o : Obj} {xs : List V} (e : H a = some (.frz o (.lst xs))) : TyOf K H (.ref a) (.type "list")
  | tup {a : Addr} {xs : List V} (e : H a = some (.tup xs)) : TyOf K H (.ref a) (.type "tuple")
  | dK {a : Addr} {kvs : List (Key × V)} (e : H a = some (.dK kvs)) : TyOf K H (.ref a) (.type "dict")
  | dT {a : Addr} {kvs : List (List Key × V)} (e : H a = some (.dT kvs)) : TyOf K H (.ref a) (.type "dict")
  | ins {a C dx : Addr} {fs : List (Str × V)} (e : H a = some (.ins C dx fs)) (cl : Cls K C) (ha : PySem.W.findIn K (.ref C) "__class__" = some (some (.builtin "object.__class__")))
      (hn : PySem.W.specialIn K (.builtin "object.__class__") "__get__" = some (some (.builtin "getset_descriptor.__get__"))) (htk : PySem.W.takesIn K (.builtin "object.__class__") = some true)
      (hm : PySem.W.mroIn K C (.type "object") = some true) : TyOf K H (.ref a) (.ref C)
theorem isinst_ok {x : V} {u t : Value} (I : Inv X pins σ H s) (rx : RelV x u) (ty : TyOf X.K H x t) (e : PySem.W.kitOne X.K t c = some b) (h : ∀ tk, Q (.bool b) { s with toks := tk }) :
    wpAny (model X.prog X.w) A (call (.builtin "isinstance") [u, c]) Q E s := by
  cases ty with
  | non => cases (show u = Value.none from rx); exact PySem.W.kia_one PySem.W.kitx_none I.kIn True.intro e (fun z => nomatch z) h
  | bl y => cases (show u = Value.bool y from rx); exact PySem.W.kia_one PySem.W.kitx_bool I.kIn True.intro e (fun z => nomatch z) h
  | int i => obtain ⟨t, q⟩ := (show ∃ t, u = Value.int i t from rx); cases q; exact PySem.W.kia_one PySem.W.kitx_int I.kIn True.intro e (fun z => nomatch z) h
  | str y => obtain ⟨t, q⟩ := (show ∃ t, u = Value.str y t from rx); cases q; exact PySem.W.kia_one PySem.W.kitx_str I.kIn True.intro e (fun z => nomatch z) h
  | flt y => obtain ⟨t, q⟩ := (show ∃ t, u = Value.float y t from rx); cases q; exact PySem.W.kia_one PySem.W.kitx_float I.kIn True.intro e (fun z => nomatch z) h
  | @lst a xs ea =>
    cases (show u = Value.ref a from rx)
    obtain ⟨_, _, n, _, h1⟩ := (show ObjOk X.prog X.w H s.heap a (.lst xs) from I.hok a _ ea)
    exact PySem.W.kia_one PySem.W.kitx_list I.kIn ⟨_, h1, rfl⟩ e (fun z => nomatch z) h
  | @frz a ob xs ea =>
    cases (show u = Value.ref a from rx)
    obtain ⟨_, _, _, n, _, h1⟩ := (show ObjOk X.prog X.w H s.heap a (.frz ob (.lst xs)) from I.hok a _ ea)
    exact PySem.W.kia_one PySem.W.kitx_list I.kIn ⟨_, h1, rfl⟩ e (fun z => nomatch z) h
  | @tup a xs ea =>
    cases (show u = Value.ref a from rx)
    obtain ⟨_, _, _, p⟩ := (show ObjOk X.prog X.w H s.heap a (.tup xs) from I.hok a _ ea)
    obtain ⟨o, h1, h2, _⟩ := p
    exact PySem.W.kia_one PySem.W.kitx_tuple I.kIn ⟨o, h1, h2⟩ e (fun z => nomatch z) h
  | @dK a kvs ea =>
    cases (show u = Value.ref a from rx)
    obtain ⟨_, _, vs, _, p⟩ := (show ObjOk X.prog X.w H s.heap a (.dK kvs) from I.hok a _ ea)
    obtain ⟨o, es, ep, h1, h2, _⟩ := p
    exact PySem.W.kia_one PySem.W.kitx_dict I.kIn ⟨o, h1, h2.1⟩ e (fun z => nomatch z) h
  | @dT a kvs ea =>
    cases (show u = Value.ref a from rx)
    obtain ⟨_, _, xs, _, o, es, ep, h1, h2, _⟩ := (show ObjOk X.prog X.w H s.heap a (.dT kvs) from I.hok a _ ea)
    exact PySem.W.kia_one PySem.W.kitx_dict I.kIn ⟨o, h1, h2.1⟩ e (fun z => nomatch z) h
  | @ins a C dx fs ea cl ha hn htk hm =>
    cases (show u = Value.ref a from rx)
    obtain ⟨mA, O, _⟩ := ins_get I.hok ea
    obtain ⟨od, J, _⟩ := O.look
    exact PySem.W.kia_one (PySem.W.kitx_own (cl.get _) cl.hd ha hn htk hm) I.kIn J e (fun z => nomatch z) h
end
end L2

namespace L2
open PySem PySem.Spec PyProof.Rows

structure Room (k : Nat) (A : Around) : Prop where
  hd : A.handled = none
  dp : A.depth + 3 * k + 5 < recursionLimit
  un : A.units + 16 * k + 200 < cLine
theorem Room.mono {j k : Nat} {A : Around} (r : Room k A) (h : j ≤ k) : Room j A := ⟨r.hd, by have := r.dp; omega, by have := r.un; omega⟩
theorem Room.deeper {k : Nat} {A : Around} (r : Room (k + 1) A) (env : Env) : Room k (A.deeper env) :=
  ⟨r.hd, by have := r.dp; show A.depth + 1 + 3 * k + 5 < _; omega, by have := r.un; show A.units + 3 + 16 * k + 200 < _; omega⟩
theorem make_depth {A : Around} {C : Addr} {us : List Value} {kw : List (Str × Value)} : (A.under (.builtin "type.__call__" ⟨.ref C :: us, kw⟩)).depth = A.depth + 1 := by
  first | rfl | simp [Around.under, Code.weight, Code.isCreation, Code.isGuard, Code.isCaller, Code.frames, Code.isFrame, guardIds]
theorem make_units {A : Around} {C : Addr} {us : List Value} {kw : List (Str × Value)} : (A.under (.builtin "type.__call__" ⟨.ref C :: us, kw⟩)).units = A.units + 1 := by
  first | rfl | simp [Around.under, Code.cUnits, Code.frames, Code.isFrame]
theorem Room.make {k : Nat} {A : Around} (r : Room (k + 1) A) (C : Addr) (us : List Value) (kw : List (Str × Value)) : Room k (A.under (.builtin "type.__call__" ⟨.ref C :: us, kw⟩)) :=
  ⟨r.hd, by have := r.dp; rw [make_depth]; omega, by have := r.un; rw [make_units]; omega⟩
theorem Room.depth {k : Nat} {A : Around} (r : Room k A) : A.depth < recursionLimit := by have := r.dp; omega
theorem Room.units {k : Nat} {A : Around} (r : Room k A) : A.units + 64 < cLine := by have := r.un; omega

def tNil : TA := fun _ H Q => Q [] H
def tCons (ta : TE) (tr : TA) : TA := fun σ H Q => ta σ H fun x H1 => tr σ H1 fun xs H2 => Q (x :: xs) H2
section
variable {X : Cx} {e : Expr} {es : List Expr} {te : TE} {t : TA} {pos : Pos}
theorem pa_nil : PA X [] tNil := fun _ _ _ _ H Q I h => Calls.spliced_nil ⟨[], H, I, .nil, h⟩
theorem pa_cons (ha : PE X e te) (hr : PA X es t) (hs : starEach (e :: es) X.env = (false, eval e X.env) :: starEach es X.env := by rfl) : PA X (e :: es) (tCons te t) := by
  intro pos pins s σ H Q I h
  rw [hs]
  show wpAny _ _ (spliced ((false, eval e X.env) :: backTo pos (starEach es X.env))) _ _ s
  refine Calls.spliced_cons (thn (ha pins s σ H _ I h) fun u s1 ⟨x, H1, I1, r1, q1⟩ => ?_)
  exact thn (hr pos pins s1 σ H1 _ I1 q1) fun us s2 ⟨xs, H2, I2, r2, q2⟩ => ⟨x :: xs, H2, I2, .cons r1 r2, q2⟩

def tTup (t : TA) : TE := fun σ H Q => t σ H fun xs H1 => xs.length ≤ sizeLine ∧ ∀ p, H1 p = none → Q (.ref p) (upd H1 p (.tup xs))
def tLst (t : TA) : TE := fun σ H Q => t σ H fun xs H1 => xs.length ≤ sizeLine ∧ ∀ p, H1 p = none → Q (.ref p) (upd H1 p (.lst xs))
theorem pe_tup {x1} (h : PA X es t) : PE X (.Tuple es x1 pos) (tTup t) := by
  intro pins s σ H Q I hq
  refine wpAny_Tuple_spliced (thn (h pos pins s σ H _ I hq) fun us s1 ⟨xs, H1, I1, r, z, q⟩ => ⟨by rw [← r.length]; exact z, ?_⟩)
  have hf : H1 s1.heap.objs.size = none := I1.hok.fresh (Nat.le_refl _)
  refine ⟨.ref s1.heap.objs.size, upd H1 s1.heap.objs.size (.tup xs), I1.laid (t' := s1.toks) (fun b u e => Heap.get?_push_of_some _ e) (Nat.le_refl _) ?_, rfl, q _ hf⟩
  exact ⟨z, us, r, ⟨_, Heap.get?_push_size _ rfl, rfl, _, rfl⟩⟩
theorem pe_lst (h : PA X es t) : PE X (.List es pos) (tLst t) := by
  intro pins s σ H Q I hq
  refine wpAny_List_spliced (thn (h pos pins s σ H _ I hq) fun us s1 ⟨xs, H1, I1, r, z, q⟩ => ⟨by rw [← r.length]; exact z, ?_⟩)
  have hf : H1 s1.heap.objs.size = none := I1.hok.fresh (Nat.le_refl _)
  refine ⟨.ref s1.heap.objs.size, upd H1 s1.heap.objs.size (.lst xs), I1.laid (t' := s1.toks) (fun b u e => Heap.get?_push_of_some _ e) (Nat.le_refl _) ?_, rfl, q _ hf⟩
  exact ⟨z, us, 0, r, Heap.get?_push_size _ rfl⟩
end

abbrev Sp := List V → Hp → VK → XK → Prop
abbrev CXT := List Env → Hp → Shared → XK → Value → Shared → Prop

structure Env0 (P : Program) (w : World) (K : PySem.W.Frag) (mg : Str → Option Value) (base : Heap) (A : Around) (outer : List Env) (s : Shared) (H : Hp) : Prop where
  frames : A.frames = some outer
  mod : Mod K mg base
  bs : ∀ b o, base.get? b = some o → s.heap.get? b = some o ∧ H b = none
  bsz : base.objs.size ≤ s.heap.objs.size
  funs : s.heap.FunFrames base outer
  frf : ∀ b ∈ frs outer, H b = none
  hok : HOk P w H s.heap
  bare : AllBare s.gens
def CE (outer : List Env) (P : Program) (w : World) (H : Hp) (s : Shared) (Q : VK) (u : Value) (s' : Shared) : Prop :=
  ∃ v H', s'.os = s.os ∧ AllBare s'.gens ∧ Un (frs outer) [] H H' s.heap s'.heap ∧ HOk P w H' s'.heap ∧ RelV v u ∧ Q v H'
def CR (CX : CXT) (outer : List Env) (P : Program) (w : World) (H : Hp) (s : Shared) (Q : VK) (E : XK) (r : Result) (s' : Shared) : Prop :=
  match r with
  | .ok (.ret u) => CE outer P w H s Q u s'
  | .ok _ => False
  | .error e => CX outer H s E e s'
structure FnOk (P : Program) (w : World) (K : PySem.W.Frag) (mg : Str → Option Value) (base : Heap) (CX : CXT) (k : Nat) (f : Addr) (fd : FuncData) (ps : List Str) (sp : Sp) : Prop where
  len : ∀ vs H Q E, sp vs H Q E → vs.length = ps.length
  run : ∀ (A : Around) (outer : List Env) (s : Shared) (H : Hp) (args : Args) (us : List Value) (vs : List V) (Q : VK) (E : XK), Room k A → Env0 P w K mg base A outer s H → BindsTo s fd args (ps.zip us) → Vals vs us → sp vs H Q E →
    codeAny (model P w) A (.call (.ref f) args) (CR CX outer P w H s Q E) s

theorem Env0.make {P : Program} {w : World} {K : PySem.W.Frag} {mg : Str → Option Value} {base : Heap} {A : Around} {outer : List Env} {s : Shared} {H : Hp} (e : Env0 P w K mg base A outer s H) (C : Addr) (us : List Value) (kw : List (Str × Value)) :
    Env0 P w K mg base (A.under (.builtin "type.__call__" ⟨.ref C :: us, kw⟩)) outer s H := ⟨by first | exact e.frames | (simpa [Around.under, Code.envs, Code.isFrame, pushEnvs] using e.frames), e.mod, e.bs, e.bsz, e.funs, e.frf, e.hok, e.bare⟩

section
variable {X : Cx} {pins : List (Addr × Obj)} {σ : St} {H : Hp} {s s' : Shared}
theorem Inv.env0 (I : Inv X pins σ H s) : Env0 X.prog X.w X.K X.mg X.base X.A X.stack s H :=
  ⟨I.ok.frames, I.ok.mod, I.bs, Nat.le_trans I.ok.bsz I.sz, I.stack, I.stkFree, I.hok, I.bare⟩
theorem Inv.after {Q : VK} {u : Value} (I : Inv X pins σ H s) (h : CE X.stack X.prog X.w H s Q u s') : EP X pins σ Q u s' := by
  obtain ⟨v, H', os, bare, un, hok, r, q⟩ := h
  obtain ⟨hh, g, d, t, os'⟩ := s'
  obtain rfl : os' = s.os := os
  exact ⟨v, H', I.call (h' := hh) (g' := g) (d' := d) (t' := t) (ch := []) un hok bare (fun b z => absurd z (by simp)), r, q⟩
end

def tCall (sp : Sp) (dvs : List V) (E : XK) (t : TA) : TE := fun σ H Q => t σ H fun vs H1 => sp (vs ++ dvs) H1 Q E
def tMeth (C : Addr) (m : Str) (sp : Sp) (dvs : List V) (E : XK) (ta : TE) (t : TA) : TE := fun σ H Q => ta σ H fun x H1 => ∃ a dx fs, x = .ref a ∧ H1 a = some (.ins C dx fs) ∧ fs.lookup m = none ∧
  t σ H1 fun vs H2 => sp (x :: (vs ++ dvs)) H2 Q E
def tMake (C : Addr) (sp : Sp) (dvs : List V) (E : XK) (t : TA) : TE := fun σ H Q => t σ H fun vs H1 => ∀ x dx, H1 x = none → H1 dx = none → dx ≠ x →
  sp (.ref x :: (vs ++ dvs)) (upd (upd H1 dx (.own x)) x (.ins C dx [])) (fun v H2 => v = .non ∧ Q (.ref x) H2) E

def Binds (K : PySem.W.Frag) (fd : FuncData) (ps : List Str) (ds : List Value) : Prop :=
  ∀ (s : Shared) (us : List Value), K.In s.heap → (us ++ ds).length = ps.length → BindsTo s fd ⟨us, []⟩ (ps.zip (us ++ ds))
theorem Binds.all {K : PySem.W.Frag} {fd : FuncData} {ps : List Str} (h : ∀ us : List Value, us.length = ps.length → bindArgs fd ⟨us, []⟩ = pure (ps.zip us)) : Binds K fd ps [] := fun s us _ hl => by
  rw [List.append_nil] at hl ⊢
  exact .of_eq (h us hl)

def Passes (CX : CXT) (X : Cx) (E : XK) : Prop := ∀ (pins : List (Addr × Obj)) (σ : St) (H : Hp) (s : Shared) (e : Value) (s' : Shared), Inv X pins σ H s → CX X.stack H s E e s' → X.xe e s'

section
variable {X : Cx} {CX : CXT} {k : Nat} {f C : Addr} {fd : FuncData} {ps : List Str} {sp : Sp} {dvs : List V} {ds : List Value} {E : XK} {x m : Str} {p pos apos : Pos} {e o : Expr} {es : List Expr} {ta : TE} {t : TA}

theorem run_fn {pins : List (Addr × Obj)} {σ : St} {H : Hp} {s : Shared} {Q : VK} {us : List Value} {vs : List V} (F : FnOk X.prog X.w X.K X.mg X.base CX k f fd ps sp) (hr : Room k X.A) (hb : Binds X.K fd ps ds) (hd : Vals dvs ds) (hx : Passes CX X E)
    (I : Inv X pins σ H s) (r : Vals vs us) (h : sp (vs ++ dvs) H Q E) : wpAny (model X.prog X.w) X.A (call (.ref f) us) (EP X pins σ Q) X.xe s := by
  have r2 : Vals (vs ++ dvs) (us ++ ds) := r.append hd
  have hl : (us ++ ds).length = ps.length := by rw [← r2.length]; exact F.len _ _ _ _ h
  refine wpAny_call (codeAny_mono (F.run X.A X.stack s H ⟨us, []⟩ (us ++ ds) (vs ++ dvs) Q E hr I.env0 (hb s us I.kIn hl) r2 h) fun r s' hq => ?_)
  cases r with
  | error e => exact hx pins σ H s e s' I hq
  | ok fl =>
    cases fl with
    | ret u => exact I.after hq
    | next => exact False.elim hq
    | brk => exact False.elim hq
    | cont => exact False.elim hq

theorem pe_call (F : FnOk X.prog X.w X.K X.mg X.base CX k f fd ps sp) (hr : Room k X.A) (hg : Gl X x) (hm : X.mg x = some (.ref f)) (hk : PySem.W.keepIn X.K (.ref f) = true) (hb : Binds X.K fd ps ds) (hd : Vals dvs ds) (hx : Passes CX X E)
    (ha : PA X (e :: es) t) (hdb : (x == ("__debug__" : Str)) = false := by decide) (he : starEach (e :: es) X.env = (false, eval e X.env) :: starEach es X.env := by rfl) (hpl : (backTo pos (starEach es X.env)).any (·.1) = false := by rfl) :
    PE X (.Call (.Name x p) (e :: es) [] pos) (tCall sp dvs E t) := by
  intro pins s σ H Q I h
  refine wpAny_Call_Name_kw (ld_glob I hg hm ?_ hdb)
  refine PySem.W.callWith_K (h₀ := X.base) I.ok.mod.kin hk (thn (ha pos pins s σ H _ I h) fun us s1 ⟨vs, H1, I1, r, q⟩ => ⟨I1.kIn, ?_⟩) he hpl
  exact run_fn F hr hb hd hx I1 r q

theorem pe_meth {pl : Sem Bool} (he : PE X o ta) (c : Cls X.K C) (hm : Meth X.K C m f) (F : FnOk X.prog X.w X.K X.mg X.base CX k f fd ps sp) (hr : Room k X.A) (hb : Binds X.K fd ps ds) (hd : Vals dvs ds) (hx : Passes CX X E) (ha : PA X (e :: es) t)
    (hst : starEach (e :: es) X.env = (false, eval e X.env) :: starEach es X.env := by rfl) (hpl : (backTo pos (starEach es X.env)).any (·.1) = false := by rfl)
    (ht : eval (.Call (.Attribute o m apos) (e :: es) [] pos) X.env = (do
      let ov ← eval o X.env
      standAt apos.atName
      let (f, first) ← holding [ov] (getMethod ov m pl)
      callWith pos f first (backTo pos (starEach (e :: es) X.env)) (backToKw pos (keywordEach [] X.env))) := by rfl) :
    PE X (.Call (.Attribute o m apos) (e :: es) [] pos) (tMeth C m sp dvs E ta t) := by
  intro pins s σ H Q I h
  refine PySem.W.methodCall_KW (pl := pl) (thn (he pins s σ H _ I h) fun u s1 ⟨x, H1, I1, rx, a, dx, fs, ex, ea, l, q⟩ => ?_) ht
  subst ex
  obtain rfl : u = Value.ref a := rx
  refine getmeth_ok I1 ea c hm l ?_
  refine PySem.W.callWith_K (first := [.ref a]) (h₀ := X.base) I.ok.mod.kin hm.kp (thn (ha pos pins s1 σ H1 _ I1 q) fun us s2 ⟨vs, H2, I2, r, q2⟩ => ⟨I2.kIn, ?_⟩) hst hpl
  exact run_fn (us := .ref a :: us) (vs := .ref a :: vs) F hr hb hd hx I2 (.cons rfl r) q2

structure Mk (K : PySem.W.Frag) (C f : Addr) : Prop where
  makes : PySem.W.makesIn K C = true
  init : PySem.W.findIn K (.ref C) "__init__" = some (some (.ref f))
  fn : PySem.W.isFn K (.ref f) = true
  kp : PySem.W.keepIn K (.ref C) = true

theorem run_make {pins : List (Addr × Obj)} {σ : St} {H : Hp} {s : Shared} {Q : VK} {us : List Value} {vs : List V} (M : Mk X.K C f) (F : FnOk X.prog X.w X.K X.mg X.base CX k f fd ps sp) (hr : Room (k + 1) X.A) (hb : Binds X.K fd ps ds) (hd : Vals dvs ds)
    (hx : Passes CX X E) (I : Inv X pins σ H s) (r : Vals vs us)
    (h : ∀ x dx, H x = none → H dx = none → dx ≠ x → sp (.ref x :: (vs ++ dvs)) (upd (upd H dx (.own x)) x (.ins C dx [])) (fun v H2 => v = .non ∧ Q (.ref x) H2) E) :
    wpAny (model X.prog X.w) X.A (call (.ref C) us) (EP X pins σ Q) X.xe s := by
  have hq := h (s.heap.objs.size + 1) s.heap.objs.size (I.hok.fresh (Nat.le_succ _)) (I.hok.fresh (Nat.le_refl _)) (Nat.ne_of_lt (Nat.lt_succ_self _))
  have I2 := Inv.made (C := C) I
  have r2 : Vals (V.ref (s.heap.objs.size + 1) :: (vs ++ dvs)) (Value.ref (s.heap.objs.size + 1) :: (us ++ ds)) := .cons rfl (r.append hd)
  have hl : (Value.ref (s.heap.objs.size + 1) :: us ++ ds).length = ps.length := by
    have e := r2.length
    rw [F.len _ _ _ _ hq] at e
    exact e.symm
  refine wpAny_call (make_map (f := f) I.kIn M.makes M.init (beq_iff_eq.mp M.fn) (codeAny_mono (F.run _ X.stack _ _ ⟨Value.ref (s.heap.objs.size + 1) :: us, []⟩ (Value.ref (s.heap.objs.size + 1) :: (us ++ ds)) _ _ E (hr.make C us [])
    (I2.env0.make C us []) (hb _ (Value.ref (s.heap.objs.size + 1) :: us) I2.kIn hl) r2 hq) fun r s' hq' => ?_))
  cases r with
  | error e => exact hx pins σ _ _ e s' I2 hq'
  | ok fl =>
    cases fl with
    | ret u =>
      obtain ⟨v, H', I3, rv, ev, q3⟩ := I2.after hq'
      subst ev
      exact ⟨rv, ⟨V.ref (s.heap.objs.size + 1), H', I3, rfl, q3⟩⟩
    | next => exact False.elim hq'
    | brk => exact False.elim hq'
    | cont => exact False.elim hq'
theorem pe_make (M : Mk X.K C f) (F : FnOk X.prog X.w X.K X.mg X.base CX k f fd ps sp) (hr : Room (k + 1) X.A) (hg : Gl X x) (hm : X.mg x = some (.ref C)) (hb : Binds X.K fd ps ds) (hd : Vals dvs ds) (hx : Passes CX X E)
    (ha : PA X (e :: es) t) (hdb : (x == ("__debug__" : Str)) = false := by decide) (he : starEach (e :: es) X.env = (false, eval e X.env) :: starEach es X.env := by rfl) (hpl : (backTo pos (starEach es X.env)).any (·.1) = false := by rfl) :
    PE X (.Call (.Name x p) (e :: es) [] pos) (tMake C sp dvs E t) := by
  intro pins s σ H Q I h
  refine wpAny_Call_Name_kw (ld_glob I hg hm ?_ hdb)
  refine PySem.W.callWith_K (h₀ := X.base) I.ok.mod.kin M.kp (thn (ha pos pins s σ H _ I h) fun us s1 ⟨vs, H1, I1, r, q⟩ => ⟨I1.kIn, ?_⟩) he hpl
  exact run_make M F hr hb hd hx I1 r q
end

section
variable {X : Cx} {CX : CXT} {k : Nat} {f C : Addr} {fd : FuncData} {ps ks : List Str} {sp : Sp} {E : XK} {x m : Str} {p pos apos kpos : Pos} {e o : Expr} {es : List Expr} {kws : List Keyword} {te ta : TE} {t tk : TA} {nm : Option Str}

variable {g : List Value → List Value → List Value} {gV : List V → List V → List V}
end

structure FnScope (N P : List Str) (sc : Scope) : Prop where
  kind : sc.kind = .function
  co : sc.isCoroutine = false
  gen : sc.isGenerator = false
  nd : N.Nodup
  pre : N.take P.length = P
  par : ∀ x ∈ P, sc.names.lookup x = some .local ∨ sc.names.lookup x = some .cell
  nofree : ∀ y ∈ sc.names, y.2 ≠ .free

theorem bindL_out {kindOf : Str → Option NameKind} {x : Str} : ∀ {binds : List (Str × Value)} {m : Str → Option Value}, (∀ v, (x, v) ∉ binds) → bindL kindOf binds m x = m x
  | [], _, _ => rfl
  | (n, v) :: r, m, h => by
    unfold bindL
    rw [bindL_out fun w hw => h w (List.mem_cons_of_mem _ hw)]
    split
    · have : x ≠ n := by rintro rfl; exact h v List.mem_cons_self
      simp [this]
    · rfl
theorem bindC_out {kindOf : Str → Option NameKind} {x : Str} : ∀ {binds : List (Str × Value)} {m : Str → Option Value}, (∀ v, (x, v) ∉ binds) → bindC kindOf binds m x = m x
  | [], _, _ => rfl
  | (n, v) :: r, m, h => by
    unfold bindC
    rw [bindC_out fun w hw => h w (List.mem_cons_of_mem _ hw)]
    split
    · rfl
    · have : x ≠ n := by rintro rfl; exact h v List.mem_cons_self
      simp [this]
theorem bindL_get {kindOf : Str → Option NameKind} {x : Str} {v : Value} : ∀ {P : List Str} {vs : List Value} {i : Nat} {m : Str → Option Value}, P.Nodup → P[i]? = some x → vs[i]? = some v → kindOf x = some .local →
    bindL kindOf (P.zip vs) m x = some v
  | [], _, _, _, _, h, _, _ => by simp at h
  | _ :: _, [], _, _, _, _, h, _ => by simp at h
  | p :: P, w :: vs, 0, m, nd, h1, h2, hk => by
    simp at h1 h2; subst h1; subst h2
    show bindL kindOf ((p, w) :: P.zip vs) m p = _
    unfold bindL
    rw [bindL_out fun v hv => (List.nodup_cons.mp nd).1 (List.of_mem_zip hv).1, if_pos hk]
    simp
  | p :: P, w :: vs, i + 1, m, nd, h1, h2, hk => by
    show bindL kindOf ((p, w) :: P.zip vs) m x = _
    unfold bindL
    exact bindL_get (i := i) (List.nodup_cons.mp nd).2 (by simpa using h1) (by simpa using h2) hk
theorem bindC_get {kindOf : Str → Option NameKind} {x : Str} {v : Value} : ∀ {P : List Str} {vs : List Value} {i : Nat} {m : Str → Option Value}, P.Nodup → P[i]? = some x → vs[i]? = some v → kindOf x ≠ some .local →
    bindC kindOf (P.zip vs) m x = some v
  | [], _, _, _, _, h, _, _ => by simp at h
  | _ :: _, [], _, _, _, _, h, _ => by simp at h
  | p :: P, w :: vs, 0, m, nd, h1, h2, hk => by
    simp at h1 h2; subst h1; subst h2
    show bindC kindOf ((p, w) :: P.zip vs) m p = _
    unfold bindC
    rw [bindC_out fun v hv => (List.nodup_cons.mp nd).1 (List.of_mem_zip hv).1, if_neg hk]
    simp
  | p :: P, w :: vs, i + 1, m, nd, h1, h2, hk => by
    show bindC kindOf ((p, w) :: P.zip vs) m x = _
    unfold bindC
    exact bindC_get (i := i) (List.nodup_cons.mp nd).2 (by simpa using h1) (by simpa using h2) hk

def start (N : List Str) (vs : List V) : St := vs.map some ++ List.replicate (N.length - vs.length) none

def cxOf (CX : CXT) (P : Program) (w : World) (K : PySem.W.Frag) (mg : Str → Option Value) (base : Heap) (N : List Str) (qual : Str) (scope : Scope) (f : Addr) (cd : Value) (A : Around) (outer : List Env) (s : Shared) (H : Hp) (E : XK) : Cx where
  prog := P
  w := w
  K := K
  mg := mg
  base := base
  A := A.deeper (envOfC qual scope s.heap.objs.size f cd)
  N := N
  s₀ := s
  H₀ := H
  env := envOfC qual scope s.heap.objs.size f cd
  outer := outer
  stack := envOfC qual scope s.heap.objs.size f cd :: outer
  ex := []
  calm := true
  fn := fun _ => true
  pn := []
  xe := fun e s' => wpAny (model P w) (A.deeper (envOfC qual scope s.heap.objs.size f cd)) (leaving (envOfC qual scope s.heap.objs.size f cd) e) (fun _ s'' => CX outer H s E e s'') (fun e' s'' => CX outer H s E e' s'') s'

theorem cell_has {sc : Scope} {n : Nat} {x : Str} (h : sc.names.lookup x = some .cell) : ∃ c, (cellsFrom n sc.names []).lookup x = some c := by
  have q := PySem.W.cellsFrom_some sc.names n [] (.inl h)
  exact Option.isSome_iff_exists.mp q

theorem inv_start {CX : CXT} {P : Program} {w : World} {K : PySem.W.Frag} {mg : Str → Option Value} {base : Heap} {N ps : List Str} {qual : Str} {scope : Scope} {f : Addr} {cd : Value} {A : Around} {outer : List Env} {s s1 : Shared} {H : Hp} {E : XK} {us : List Value} {vs : List V}
    (S : FnScope N ps scope) (hd : A.handled = none) (e0 : Env0 P w K mg base A outer s H) (hl : vs.length = ps.length) (r : Vals vs us)
    (x : InCallC s s.heap.objs.size (bindL (envOfC qual scope s.heap.objs.size f cd).kindOf (ps.zip us) fun _ => none) (cellsFrom (s.heap.objs.size + 1) scope.names []) (bindC (envOfC qual scope s.heap.objs.size f cd).kindOf (ps.zip us) fun _ => none) s1) :
    Inv (cxOf CX P w K mg base N qual scope f cd A outer s H E) [] (start N vs) H s1 := by
  have hpl : ps.length ≤ N.length := by have := congrArg List.length S.pre; rw [List.length_take] at this; omega
  obtain ⟨h1, tk, rfl, hk⟩ := x.done
  have noA : ∀ b : Addr, b ∉ (cxOf CX P w K mg base N qual scope f cd A outer s H E).ex := fun b z => absurd (show b ∈ ([] : List Addr) from z) (by simp)
  refine ⟨⟨e0.mod, S.kind, rfl, rfl, Nat.le_refl _, fun y z c h1 h2 => ?_, fun y hy => ?_, fun y c _ h => ?_, fun _ => hd, Around.frames_deeper e0.frames, .inr ⟨rfl, rfl⟩, fun b z => absurd z (noA b), e0.bs, e0.bsz, fun b _ _ => noA b, fun b z => absurd z (noA b), e0.funs, e0.frf⟩,
    rfl, e0.bare, Un.kept hk, ⟨_, x.toInCall.ns, fun i y v h1 h2 h3 => ?_⟩, fun y c h => ⟨_, x.cell y c h⟩, e0.hok.fresh (Nat.le_refl _), fun y c h => ?_, fun p hp => absurd (show p ∈ ([] : List (Addr × Obj)) from hp) (by simp), e0.hok.kept hk, ?_⟩
  · exact name_of_addr x.apart (PySem.mem_of_lookup h1) (PySem.mem_of_lookup h2)
  · have hy : scope.names.lookup y = some .cell ∨ scope.names.lookup y = some .free := hy
    rcases hy with hy | hy
    · exact cell_has hy
    · exact absurd rfl (S.nofree _ (PySem.mem_of_lookup hy))
  · exact Nat.le_of_lt (x.above y c (PySem.mem_of_lookup h))
  · have hi : i < vs.length := by
      unfold start at h2
      by_cases hi : i < vs.length
      · exact hi
      · rw [List.getElem?_append_right (by simpa using hi)] at h2
        rw [List.getElem?_replicate] at h2
        split at h2 <;> cases h2
    have ha : vs[i]? = some v := by
      unfold start at h2
      rw [List.getElem?_append_left (by simpa using hi), List.getElem?_map] at h2
      cases e : vs[i]? with
      | none => rw [e] at h2; cases h2
      | some a => rw [e] at h2; cases h2; rfl
    obtain ⟨u, hu, rv⟩ := r.get ha
    have hp : ps[i]? = some y := by
      rw [← S.pre, List.getElem?_take_of_lt (by omega)]; exact h1
    have ndP : ps.Nodup := by rw [← S.pre]; exact S.nd.sublist (List.take_sublist _ _)
    refine ⟨u, rv, ?_⟩
    rcases S.par y (List.mem_of_getElem? hp) with k | k
    · exact .inl ⟨k, bindL_get ndP hp hu k⟩
    · obtain ⟨c, e⟩ := cell_has (n := s.heap.objs.size + 1) k
      refine .inr ⟨.inl k, c, e, ?_⟩
      have q := x.cell y c e
      rw [bindC_get ndP hp hu (by show scope.names.lookup y ≠ _; rw [k]; decide)] at q
      exact q
  · exact e0.hok.fresh (Nat.le_of_lt (x.above y c (PySem.mem_of_lookup h)))
  · unfold start
    show _ = N.length
    rw [List.length_append, List.length_map, List.length_replicate]
    omega

theorem fn_of {CX : CXT} {P : Program} {w : World} {K : PySem.W.Frag} {mg : Str → Option Value} {base : Heap} {k : Nat} {f : Addr} {name qual : Str} {params : Arguments} {body : List Stmt} {scope : Scope} {dV kV doc pm cdv ct oc : Value} {an od : Option Addr}
    {osl : Array (Option Value)} {N ps : List Str} {sp : Sp} (lk : K.lookup f = some ⟨oc, od, .func (PySem.W.fnOf name qual params body scope dV kV doc pm an cdv ct), osl⟩) (hcd : PySem.W.codeIn K cdv qual = true) (S : FnScope N ps scope)
    (len : ∀ vs H Q E, sp vs H Q E → vs.length = ps.length)
    (hbody : ∀ (A : Around) (outer : List Env) (s : Shared) (H : Hp) (vs : List V) (Q : VK) (E : XK), Room k (A.deeper (envOfC qual scope s.heap.objs.size f cdv)) → sp vs H Q E →
      ∃ t, PSs (cxOf CX P w K mg base N qual scope f cdv A outer s H E) body t ∧ t { nx := fun _ H' => Q .non H', rt := Q } (start N vs) H) :
    FnOk P w K mg base CX (k + 1) f (PySem.W.fnOf name qual params body scope dV kV doc pm an cdv ct) ps sp := by
  refine ⟨len, fun A outer s H args us vs Q E hr e0 hb r hsp => ?_⟩
  have hl := len _ _ _ _ hsp
  have KX : K.In s.heap := e0.mod.kin.keeps fun b o e => (e0.bs b o e).1
  have lim : s.heap.NoLimit := e0.mod.nolimit.keeps fun b o e => (e0.bs b o e).1
  have hkind : ∀ y ∈ ps.zip us, scope.names.lookup y.1 = some .local ∨ (scope.names.lookup y.1 = some .cell ∧ ((cellsFrom (s.heap.objs.size + 1) scope.names []).lookup y.1).isSome = true) := fun ⟨n, v⟩ hy => by
    rcases S.par n (List.of_mem_zip hy).1 with q | q
    · exact .inl q
    · exact .inr ⟨q, PySem.W.cellsFrom_some _ _ _ (.inl q)⟩
  refine codeAny_call_function hr.depth (KX _ _ lk) rfl S.co S.gen rfl (PySem.W.codeRec_of KX hcd) (hb _ _ _ _ ?_)
  refine wpAny_newFunctionEnv_cells S.kind hkind fun env he s1 x => ?_
  subst he
  refine ⟨lim.keeps x.toInCall.keep, codeAny_func ?_⟩
  obtain ⟨t, ht, hq⟩ := hbody A outer s H vs Q E (hr.deeper _) hsp
  have I : Inv (cxOf CX P w K mg base N qual scope f cdv A outer s H E) [] (start N vs) H s1 := inv_start S hr.hd e0 hl r x
  refine wpAny_mono (ht [] s1 (start N vs) H _ I hq) (fun fl s' hs => ?_) fun e s' hs => hs
  have fin : ∀ {σ' : St} {H' : Hp} {v : V} {u : Value}, Inv (cxOf CX P w K mg base N qual scope f cdv A outer s H E) [] σ' H' s' → RelV v u → Q v H' → CE outer P w H s Q u s' :=
    fun {σ' H' v u} J rv q => ⟨v, H', J.os, J.bare, J.base, J.hok, rv, q⟩
  cases fl with
  | ret u =>
    obtain ⟨v, σ', H', J, rv, q⟩ := hs
    exact fin J rv q
  | next =>
    obtain ⟨σ', H', J, q⟩ := hs
    exact fin (v := V.non) (u := Value.none) J rfl q
  | brk =>
    obtain ⟨_, _, _, q⟩ := hs
    exact False.elim q
  | cont =>
    obtain ⟨_, _, _, q⟩ := hs
    exact False.elim q
end L2

namespace L2
open PySem PySem.Spec PyProof.Rows
section
variable {X : Cx} {x : Str} {p pos : Pos} {e : Expr} {es : List Expr} {t : TA} {id T : String} {r : List V → Hp → VK → Prop}

def tCB (r : List V → Hp → VK → Prop) (t : TA) : TE := fun σ H Q => t σ H fun vs H1 => r vs H1 Q
theorem pe_callB (hc : CallR X (.builtin id) r) (hg : Gl X x) (hm : X.mg x = none) (hv : bootBuiltins x = some (.builtin id)) (ha : PA X (e :: es) t) (hn : x ≠ "__name__" := by decide) (hdb : (x == ("__debug__" : Str)) = false := by decide)
    (he : starEach (e :: es) X.env = (false, eval e X.env) :: starEach es X.env := by rfl) (hpl : (backTo pos (starEach es X.env)).any (·.1) = false := by rfl) : PE X (.Call (.Name x p) (e :: es) [] pos) (tCB r t) := by
  intro pins s σ H Q I h
  refine wpAny_Call_Name_kw (ld_blt I hg hm hv ?_ hn hdb)
  exact PyProof.Rows.callWith_builtin1 (thn (ha pos pins s σ H _ I h) fun us s1 ⟨vs, H1, I1, r1, q1⟩ => hc pins s1 σ H1 vs us Q I1 r1 q1) he hpl
theorem pe_callTy (hc : CallR X (.type T) r) (hg : Gl X x) (hm : X.mg x = none) (hv : bootBuiltins x = some (.type T)) (ha : PA X (e :: es) t) (hn : x ≠ "__name__" := by decide) (hdb : (x == ("__debug__" : Str)) = false := by decide)
    (he : starEach (e :: es) X.env = (false, eval e X.env) :: starEach es X.env := by rfl) (hpl : (backTo pos (starEach es X.env)).any (·.1) = false := by rfl) : PE X (.Call (.Name x p) (e :: es) [] pos) (tCB r t) := by
  intro pins s σ H Q I h
  refine wpAny_Call_Name_kw (ld_blt I hg hm hv ?_ hn hdb)
  exact PyProof.Rows.callWith_type1 (thn (ha pos pins s σ H _ I h) fun us s1 ⟨vs, H1, I1, r1, q1⟩ => hc pins s1 σ H1 vs us Q I1 r1 q1) he hpl
end
end L2

namespace HT
open PySem PyProof.Rows



section
open PySem.SeqAt
open PySem.AutoSeq1 (wpAny_loadPart')
open PySem.MeetsSeq PySem.MeetsSeq2 PySem.MeetsSeq3

end

section
variable {prog : Program} {w : World} {A : Around} {E : Value → Shared → Prop} {s : Shared}



def sIx (n d : Nat) : Option Int → Nat
  | none => d
  | some v => if v < 0 then (v + (n : Int)).toNat else min v.toNat n
theorem sIx_none (n d : Nat) : sIx n d none = d := rfl
theorem sIx_nat (n d k : Nat) : sIx n d (some (k : Int)) = min k n := by
  show (if (k : Int) < 0 then ((k : Int) + (n : Int)).toNat else min (k : Int).toNat n) = min k n
  rw [if_neg (by omega), Int.toNat_natCast]

end
end HT

namespace L2
open PySem PySem.Spec PyProof.Rows

abbrev TO := St → Hp → (Option Int → Hp → Prop) → Prop
def PO (X : Cx) (e : Option Expr) (t : TO) : Prop :=
  ∀ (pins : List (Addr × Obj)) (s : Shared) (σ : St) (H : Hp) (Q : Option Int → Hp → Prop), Inv X pins σ H s → t σ H Q →
    wpAny (model X.prog X.w) X.A (evalPart e X.env) (fun u s' => ∃ o H', Inv X pins σ H' s' ∧ IsPart u o ∧ Q o H') X.xe s
def tNoPart : TO := fun _ H Q => Q none H
def tPart (t : TE) : TO := fun σ H Q => t σ H fun x H1 => ∃ i, x = .int i ∧ Q (some i) H1

theorem intsAre_of {ns : List Int} : ∀ {us : List Value}, Vals (ns.map V.int) us → IntsAre us ns := by
  induction ns with
  | nil => intro us r; rw [List.map_nil] at r; cases r; exact .nil
  | cons n ns ih =>
    intro us r
    rw [List.map_cons] at r
    cases r with
    | cons r1 r2 =>
      obtain ⟨t, e⟩ := r1
      subst e
      exact .cons n t (ih r2)

section
variable {X : Cx} {e : Expr} {te : TE} {lo hi : Option Expr} {tl th : TO} {pos p2 : Pos}

theorem po_none : PO X none tNoPart := by
  intro pins s σ H Q I h
  rw [evalPart_none]
  exact wpAny_pure ⟨none, H, I, .none, h⟩
theorem po_some (h : PE X e te) : PO X (some e) (tPart te) := by
  intro pins s σ H Q I hw
  rw [evalPart_some]
  refine thn (h pins s σ H _ I hw) fun u s1 ⟨x, H1, I1, r1, q1⟩ => ?_
  obtain ⟨i, rfl, q⟩ := q1
  obtain ⟨t, rfl⟩ := r1
  exact ⟨some i, H1, I1, .int i t, q⟩

def SlR (X : Cx) (r : V → Option Int → Option Int → Hp → VK → Prop) : Prop :=
  ∀ (pins : List (Addr × Obj)) (s : Shared) (σ : St) (H : Hp) (x : V) (v vl vu : Value) (lo hi : Option Int) (sl : Addr) (Q : VK), Inv X pins σ H s → RelV x v → s.heap.IsSliceOf sl vl vu .none → IsPart vl lo → IsPart vu hi → r x lo hi H Q →
    ∃ T id, typeLookup (.type T) "__getitem__" = pure (some (.builtin id)) ∧ s.TypeIs v T ∧ wpAny (model X.prog X.w) X.A (getItem v (.ref sl)) (EP X pins σ Q) X.xe s
def tSl (r : V → Option Int → Option Int → Hp → VK → Prop) (te : TE) (tl th : TO) : TE := fun σ H Q => te σ H fun x H1 => tl σ H1 fun l H2 => th σ H2 fun u H3 => r x l u H3 Q
theorem pe_slice {r : V → Option Int → Option Int → Hp → VK → Prop} (hr : SlR X r) (he : PE X e te) (hl : PO X lo tl) (hu : PO X hi th) : PE X (.Subscript e (.Slice lo hi none p2) pos) (tSl r te tl th) := by
  intro pins s σ H Q I h
  refine Subscript_ (thn (he pins s σ H _ I h) fun v s1 ⟨x, H1, I1, r1, q1⟩ => ?_)
  refine wpAny_Slice (thn (hl pins s1 σ H1 _ I1 q1) fun vl s2 ⟨l, H2, I2, pl, q2⟩ => thn (hu pins s2 σ H2 _ I2 q2) fun vu s3 ⟨u, H3, I3, pu, q3⟩ => ?_)
  rw [evalPart_none]
  refine wpAny_pure ?_
  have I4 : Inv X pins σ H3 { s3 with heap := s3.heap.push { cls := .type "slice", data := .fields #[vl, vu, .none] } } := I3.kept (t' := s3.toks) fun b ob q => Heap.get?_push_of_some _ q
  obtain ⟨T, id, hT, ht, hg⟩ := hr pins { s3 with heap := s3.heap.push { cls := .type "slice", data := .fields #[vl, vu, .none] } } σ H3 x v vl vu l u s3.heap.objs.size Q I4 r1 (Heap.IsSliceOf.new ..) pl pu q3
  show wpAny (model X.prog X.w) X.A (subscriptTail e (.Slice lo hi none p2) v (.ref s3.heap.objs.size)) (EP X pins σ Q) X.xe { s3 with heap := s3.heap.push { cls := .type "slice", data := .fields #[vl, vu, .none] } }
  exact tail_any (ops := [.ref s3.heap.objs.size, v]) ht hT hg (by with_unfolding_all rfl)

def cutV (xs : List V) (lo hi : Option Int) : List V := (xs.drop (HT.sIx xs.length 0 lo)).take (HT.sIx xs.length xs.length hi - HT.sIx xs.length 0 lo)
theorem cutV_length (xs : List V) (lo hi : Option Int) : (cutV xs lo hi).length ≤ xs.length := by
  unfold cutV
  rw [List.length_take, List.length_drop]
  omega

end
end L2

namespace L2
open PySem PySem.Spec PyProof.Rows

def ixN (n : Nat) (i : Int) : Option Nat := if 0 ≤ i then (if i < n then some i.toNat else none) else if -(n : Int) ≤ i then some (i + n).toNat else none
def atI {α : Type} (xs : List α) (i : Int) : Option α := (ixN xs.length i).bind fun j => xs[j]?
theorem ixN_seq {n : Nat} {i : Int} {j : Nat} (h : ixN n i = some j) : seqIndex? i n = some j ∧ j < n ∧ -(n : Int) ≤ i ∧ i < n := by
  unfold ixN at h
  by_cases h0 : 0 ≤ i
  · rw [if_pos h0] at h
    by_cases h1 : i < n
    · rw [if_pos h1] at h
      have e : i.toNat = j := Option.some.inj h
      exact ⟨by rw [seqIndex_of h0 h1, e], by omega, by omega, h1⟩
    · rw [if_neg h1] at h; cases h
  · rw [if_neg h0] at h
    by_cases h1 : -(n : Int) ≤ i
    · rw [if_pos h1] at h
      have e : (i + n).toNat = j := Option.some.inj h
      exact ⟨by rw [seqIndex_neg (by omega) h1, e], by omega, h1, by omega⟩
    · rw [if_neg h1] at h; cases h
theorem atI_get {α : Type} {xs : List α} {i : Int} {v : α} (h : atI xs i = some v) : ∃ j, seqIndex? i xs.length = some j ∧ xs[j]? = some v ∧ j < xs.length ∧ -(xs.length : Int) ≤ i ∧ i < xs.length := by
  unfold atI at h
  cases e : ixN xs.length i with
  | none => rw [e] at h; cases h
  | some j =>
    rw [e] at h
    obtain ⟨h1, h2, h3, h4⟩ := ixN_seq e
    exact ⟨j, h1, h, h2, h3, h4⟩
theorem atI_nat {α : Type} {xs : List α} {j : Nat} {v : α} (h : xs[j]? = some v) : atI xs (j : Int) = some v := by
  have hj : j < xs.length := (List.getElem?_eq_some_iff.mp h).1
  have e : ixN xs.length (j : Int) = some j := by
    unfold ixN
    rw [if_pos (by omega), if_pos (by omega)]; simp
  unfold atI; rw [e]; exact h
theorem atI_last {α : Type} (xs : List α) (v : α) : atI (xs ++ [v]) (-1) = some v := by
  have hl : (xs ++ [v]).length = xs.length + 1 := by simp
  have e : ixN (xs ++ [v]).length (-1) = some xs.length := by
    unfold ixN
    rw [hl, if_neg (by decide), if_pos (by omega)]
    congr 1
    omega
  unfold atI
  rw [e]
  show (xs ++ [v])[xs.length]? = some v
  simp

def PlainIx (b : Expr) : Prop := ∀ o i, subscripted b false o i = operate [o, i] (getItem o i)
def IxR (X : Cx) (r : R2) : Prop :=
  ∀ (value slice : Expr) (pins : List (Addr × Obj)) (s : Shared) (σ : St) (H : Hp) (x y : V) (v u : Value) (Q : VK), Inv X pins σ H s → RelV x v → RelV y u → r x y H Q →
    subscripted slice false v u = operate [v, u] (getItem v u) → wpAny (model X.prog X.w) X.A (subscriptTail value slice v u) (EP X pins σ Q) X.xe s
def MtR (X : Cx) (id : String) (r : V → List V → Hp → VK → Prop) : Prop :=
  ∀ (pins : List (Addr × Obj)) (s : Shared) (σ : St) (H : Hp) (x : V) (xs : List V) (v : Value) (us : List Value) (Q : VK), Inv X pins σ H s → RelV x v → Vals xs us → r x xs H Q →
    wpAny (model X.prog X.w) X.A (call (.builtin id) (v :: us)) (EP X pins σ Q) X.xe s
section
variable {X : Cx} {a b : Expr} {ta tb : TE} {pos : Pos}
theorem pe_ix {r : R2} (hr : IxR X r) (ha : PE X a ta) (hb : PE X b tb) (hs : PlainIx b) : PE X (.Subscript a b pos) (tOp r ta tb) := by
  intro pins s σ H Q I h
  exact Subscript_ (binT ha hb I h fun v u s2 x y H2 I2 rx ry q => hr a b pins s2 σ H2 x y v u Q I2 rx ry q (hs _ _))

def rIxL (K : PySem.W.Frag) : R2 := fun x y H Q => ∃ p xs i v, x = .ref p ∧ y = .int i ∧ SqL K H p xs ∧ atI xs i = some v ∧ Q v H
def rIxT (K : PySem.W.Frag) : R2 := fun x y H Q => ∃ p xs i v, x = .ref p ∧ y = .int i ∧ SqT K H p xs ∧ atI xs i = some v ∧ Q v H
theorem ix_list : IxR X (rIxL X.K) := by
  intro value slice pins s σ H x y v u Q I rx ry h hs
  obtain ⟨p, xs, i, z, rfl, rfl, hq, he, q⟩ := h
  cases rx
  obtain ⟨t, rfl⟩ := ry
  obtain ⟨its, r, pl, hz⟩ := I.list hq
  obtain ⟨j, h1, h2, h3, h4, h5⟩ := atI_get he
  obtain ⟨w, ew, rw'⟩ := r.get h2
  have hl := r.length
  have hn := line63
  have fin : EP X pins σ Q w s := ⟨z, H, I, rw', q⟩
  by_cases h0 : 0 ≤ i
  · have hj : i.toNat = j := by
      rw [seqIndex_of h0 h5] at h1
      exact Option.some.inj h1
    exact item_listR pl.isList h0 (by omega) (by rw [hj]; simpa using ew) fin hs
  · have hj : (i + (its.toArray.size : Int)).toNat = j := by
      rw [seqIndex_neg (by omega) h4] at h1
      rw [List.size_toArray, ← hl]
      exact Option.some.inj h1
    exact subscriptTail_builtinR (x := w) pl.isList.typeIs slot_list_getitem.lookup
      (wpAny_getItem_list_neg (Q := fun r s' => r = w ∧ EP X pins σ Q r s') pl.isList (by omega) (by rw [List.size_toArray] <;> omega) (by omega) (by rw [hj]; simpa using ew) ⟨rfl, fin⟩) hs
theorem ix_tup : IxR X (rIxT X.K) := by
  intro value slice pins s σ H x y v u Q I rx ry h hs
  obtain ⟨p, xs, i, z, rfl, rfl, hq, he, q⟩ := h
  cases rx
  obtain ⟨t, rfl⟩ := ry
  obtain ⟨its, r, pl, hz⟩ := I.tuple hq
  obtain ⟨j, h1, h2, h3, h4, h5⟩ := atI_get he
  obtain ⟨w, ew, rw'⟩ := r.get h2
  have hl := r.length
  have hn := line63
  have fin : EP X pins σ Q w s := ⟨z, H, I, rw', q⟩
  exact subscriptTail_builtinR (x := w) pl.typeIs slot_tuple_getitem.lookup
    (getItem_tuple (j := j) (Q := fun r s' => r = w ∧ EP X pins σ Q r s') pl (by omega) (by omega) (by rw [List.size_toArray, ← hl]; exact h1) (by simpa using ew) ⟨rfl, fin⟩) hs

theorem mapSeq_set (its : List Value) (n j : Nat) (u : Value) : Obj.mapSeq (·.setIfInBounds j u) { cls := .type "list", data := .seq its.toArray n } = { cls := .type "list", data := .seq (its.set j u).toArray n } := by
  simp [Obj.mapSeq]
theorem Inv.lst {pins : List (Addr × Obj)} {σ : St} {H : Hp} {s : Shared} {p : Addr} {xs : List V} (I : Inv X pins σ H s) (h : H p = some (.lst xs)) :
    ∃ (its : List Value) (n : Nat), Vals xs its ∧ s.heap.get? p = some { cls := .type "list", data := .seq its.toArray n } ∧ xs.length ≤ sizeLine := by
  obtain ⟨z, its, n, r, e⟩ := I.hok p _ h
  exact ⟨its, n, r, e, z⟩
theorem Inv.lstUpd {pins : List (Addr × Obj)} {σ : St} {H : Hp} {s : Shared} {p : Addr} {xs ys : List V} {its its' : List Value} {n n' : Nat} {f : Obj → Obj} (I : Inv X pins σ H s) (h : H p = some (.lst xs))
    (ho : s.heap.get? p = some { cls := .type "list", data := .seq its.toArray n }) (hf : f { cls := .type "list", data := .seq its.toArray n } = { cls := .type "list", data := .seq its'.toArray n' }) (r : Vals ys its') (hz : ys.length ≤ sizeLine) (t : Nat) :
    Inv X pins σ (upd H p (.lst ys)) { s with heap := s.heap.update p f, toks := t } := by
  have e : (s.heap.update p f).get? p = some { cls := .type "list", data := .seq its'.toArray n' } := by
    rw [Heap.get?_update_self f ho (by rw [hf] <;> rfl), hf]
  refine I.write (x := p) (e := p) (by rw [h]; trivial) (.inl rfl) (fun b u hb q => (Heap.get?_update_other _ _ (Ne.symm hb)).trans q) ⟨_, e⟩ ?_
  exact ⟨hz, its', n', r, e⟩
def rSetL : V → V → V → Hp → (Hp → Prop) → Prop := fun o i v H Q => ∃ p xs k j, o = .ref p ∧ i = .int k ∧ H p = some (.lst xs) ∧ ixN xs.length k = some j ∧ Q (upd H p (.lst (xs.set j v)))
theorem set_list : PSet X rSetL := by
  intro pins s σ H o i v ov iv u Q I ro ri rv h
  obtain ⟨p, xs, k, j, rfl, rfl, hp, hj, q⟩ := h
  cases ro
  obtain ⟨t, rfl⟩ := ri
  obtain ⟨its, n, r, ho, hz⟩ := I.lst hp
  obtain ⟨h1, h2, h3, h4⟩ := ixN_seq hj
  have hl := r.length
  have hn := line63
  have I' : Inv X pins σ (upd H p (.lst (xs.set j v))) { s with heap := s.heap.update p (Obj.mapSeq (·.setIfInBounds j u)) } :=
    I.lstUpd hp ho (mapSeq_set its n j u) (r.set rv j) (by rw [List.length_set]; exact hz) s.toks
  by_cases h0 : 0 ≤ k
  · have hk : k.toNat = j := by
      rw [seqIndex_of h0 h4] at h1
      exact Option.some.inj h1
    exact PySem.W.ki_setAt ho h0 (by omega) (by rw [List.size_toArray, ← hl]; exact h4) (by rw [hk]; exact ⟨_, I', q⟩)
  · have hk : (k + (its.toArray.size : Int)).toNat = j := by
      rw [seqIndex_neg (by omega) h3] at h1
      rw [List.size_toArray, ← hl]
      exact Option.some.inj h1
    exact PySem.W.ki_setBack ho (by omega) (by rw [List.size_toArray, ← hl]; exact h3) (by omega) (by rw [hk]; exact ⟨_, I', q⟩)

theorem slice_bounds (lo hi : Option Int) (n : Nat) : (sliceBounds lo hi none n).1 = ((HT.sIx n 0 lo : Nat) : Int) ∧ (sliceBounds lo hi none n).2.1 = ((HT.sIx n n hi : Nat) : Int) ∧ (sliceBounds lo hi none n).2.2 = 1 := by
  refine ⟨?_, ?_, rfl⟩
  · cases lo with
    | none => simp [sliceBounds, HT.sIx]
    | some i =>
      simp only [sliceBounds, HT.sIx, Option.getD_none, show (1 : Int) > 0 by decide, if_true]
      by_cases h : i < 0
      · simp only [h, if_true] <;> omega
      · simp only [h, if_false] <;> omega
  · cases hi with
    | none => simp [sliceBounds, HT.sIx]
    | some i =>
      simp only [sliceBounds, HT.sIx, Option.getD_none, show (1 : Int) > 0 by decide, if_true]
      by_cases h : i < 0
      · simp only [h, if_true] <;> omega
      · simp only [h, if_false] <;> omega
theorem slicePick_cut (its : List Value) (lo hi : Option Int) : slicePick its.toArray lo hi none = ((its.drop (HT.sIx its.length 0 lo)).take (HT.sIx its.length its.length hi - HT.sIx its.length 0 lo)).toArray := by
  obtain ⟨h1, h2, h3⟩ := slice_bounds lo hi its.toArray.size
  unfold slicePick
  rw [h1, h2, h3]
  simp only [sliceRange_one, pick_run, List.size_toArray] <;> rfl
def rSlL (K : PySem.W.Frag) : V → Option Int → Option Int → Hp → VK → Prop := fun x lo hi H Q => ∃ a xs, x = .ref a ∧ SqL K H a xs ∧ ∀ p, H p = none → Q (.ref p) (upd H p (.lst (cutV xs lo hi)))
theorem sl_list : SlR X (rSlL X.K) := by
  intro pins s σ H x v vl vu lo hi sl Q I rx hs pl pu h
  obtain ⟨a, xs, rfl, hx, q⟩ := h
  cases rx
  obtain ⟨its, r, ht, hz⟩ := I.list hx
  have hlen := r.length
  refine ⟨"list", _, slot_list_getitem.lookup, ht.isList.typeIs, ?_⟩
  refine wpAny_getItem_list_slice ht.isList hs pl pu .none (by simp) ?_ (by rw [List.size_toArray] <;> omega)
  rw [slicePick_cut, ← hlen]
  refine ⟨.ref s.heap.objs.size, _, I.laid (t' := s.toks) (o := .lst (cutV xs lo hi)) (fun b ob q => Heap.get?_push_of_some _ q) (Nat.le_refl _) ?_, rfl, q _ (I.hok.fresh (Nat.le_refl _))⟩
  exact ⟨Nat.le_trans (cutV_length xs lo hi) hz, _, 0, (r.drop (HT.sIx xs.length 0 lo)).take (HT.sIx xs.length xs.length hi - HT.sIx xs.length 0 lo), Heap.get?_push_size _ rfl⟩

def flatV : V → Bool
  | .non => true
  | .bl _ => true
  | .int _ => true
  | .str _ => true
  | _ => false
def eqV : V → V → Bool
  | .non, .non => true
  | .bl a, .bl b => a == b
  | .bl a, .int b => (if a then 1 else 0) == b
  | .int a, .bl b => a == (if b then 1 else 0)
  | .int a, .int b => a == b
  | .str a, .str b => a == b
  | _, _ => false
theorem eqAt_V {A : Around} {s : Shared} {y x : V} {u v : Value} (ry : RelV y u) (rx : RelV x v) (fy : flatV y = true) (fx : flatV x = true) : SeqAt.EqAt A s u v (eqV y x) := by
  cases y with
  | non =>
    cases ry
    cases x with
    | non => cases rx; exact SeqAt.EqAt.same _
    | bl b => cases rx; exact SeqAt.EqAt.none_bool b
    | int b => obtain ⟨t, rfl⟩ := rx; exact SeqAt.EqAt.none_int b t
    | str b => obtain ⟨t, rfl⟩ := rx; exact SeqAt.EqAt.none_str b t
    | _ => exact absurd (show false = true from fx) Bool.false_ne_true
  | bl a =>
    cases ry
    cases x with
    | non => cases rx; exact SeqAt.EqAt.bool_none a
    | bl b => cases rx; exact SeqAt.EqAt.bool_bool a b
    | int b => obtain ⟨t, rfl⟩ := rx; exact SeqAt.EqAt.bool_int a b t
    | str b => obtain ⟨t, rfl⟩ := rx; exact SeqAt.EqAt.bool_str a b t
    | _ => exact absurd (show false = true from fx) Bool.false_ne_true
  | int a =>
    obtain ⟨t', rfl⟩ := ry
    cases x with
    | non => cases rx; exact SeqAt.EqAt.int_none a t'
    | bl b => cases rx; exact SeqAt.EqAt.int_bool a t' b
    | int b => obtain ⟨t, rfl⟩ := rx; exact SeqAt.EqAt.int_int a t' b t
    | str b => obtain ⟨t, rfl⟩ := rx; exact SeqAt.EqAt.int_str a t' b t
    | _ => exact absurd (show false = true from fx) Bool.false_ne_true
  | str a =>
    obtain ⟨t', rfl⟩ := ry
    cases x with
    | non => cases rx; exact SeqAt.EqAt.str_none a t'
    | bl b => cases rx; exact SeqAt.EqAt.str_bool a t' b
    | int b => obtain ⟨t, rfl⟩ := rx; exact SeqAt.EqAt.str_int a t' b t
    | str b => obtain ⟨t, rfl⟩ := rx; exact SeqAt.EqAt.str_str a t' b t
    | _ => exact absurd (show false = true from fx) Bool.false_ne_true
  | _ => exact absurd (show false = true from fy) Bool.false_ne_true
def eqU (x : V) (u : Value) : Bool := match u with
  | .none => eqV .non x
  | .bool b => eqV (.bl b) x
  | .int i _ => eqV (.int i) x
  | .str z _ => eqV (.str z) x
  | _ => false
theorem eqU_of {x y : V} {u : Value} (r : RelV y u) (f : flatV y = true) : eqU x u = eqV y x := by
  cases y with
  | non => cases r; rfl
  | bl b => cases r; rfl
  | int i => obtain ⟨t, rfl⟩ := r; rfl
  | str z => obtain ⟨t, rfl⟩ := r; rfl
  | _ => exact absurd (show false = true from f) Bool.false_ne_true
theorem any_eqU {x : V} : ∀ {xs : List V} {us : List Value}, Vals xs us → xs.all flatV = true → us.any (eqU x) = xs.any fun y => eqV y x
  | _, _, .nil, _ => rfl
  | y :: xs, u :: us, .cons r t, f => by
    rw [List.all_cons, Bool.and_eq_true] at f
    rw [List.any_cons, List.any_cons, eqU_of r f.1, any_eqU t f.2]
theorem mem_eqAt {A : Around} {s : Shared} {x : V} {v : Value} (rx : RelV x v) (fx : flatV x = true) : ∀ {xs : List V} {us : List Value}, Vals xs us → xs.all flatV = true → ∀ u ∈ us, SeqAt.EqAt A s u v (eqU x u)
  | _, _, .nil, _ => fun u hu => by cases hu
  | y :: xs, u :: us, .cons r t, f => fun u' hu => by
    rw [List.all_cons, Bool.and_eq_true] at f
    rcases List.mem_cons.mp hu with rfl | hu
    · rw [eqU_of r f.1]; exact eqAt_V r rx f.1 fx
    · exact mem_eqAt rx fx t f.2 u' hu
def inV (x : V) (xs : List V) : Bool := xs.any fun y => eqV y x
def rIn (K : PySem.W.Frag) (neg : Bool) : R2 := fun x y H Q => ∃ p xs, y = .ref p ∧ (SqL K H p xs ∨ SqT K H p xs) ∧ flatV x = true ∧ xs.all flatV = true ∧ Q (.bl (if neg then !inV x xs else inV x xs)) H
theorem op_in_seq : OpR X (compareOp .In) (rIn X.K false) := by
  intro pins s σ H x y v u Q I rx ry h
  obtain ⟨p, xs, rfl, hq, fx, fs, q⟩ := h
  cases ry
  rcases hq with hq | hq
  · obtain ⟨its, r, pl, hz⟩ := I.list hq
    refine SeqAt.in_listAt (eqU x) pl.isList (fun w hw => mem_eqAt rx fx r fs w (by simpa using hw)) ⟨.bl _, H, I, rfl, ?_⟩
    rw [show its.toArray.any (eqU x) = its.any (eqU x) by simp, any_eqU r fs]
    exact q
  · obtain ⟨its, r, pl, hz⟩ := I.tuple hq
    refine SeqAt.in_tupleAt (eqU x) pl (fun w hw => mem_eqAt rx fx r fs w (by simpa using hw)) ⟨.bl _, H, I, rfl, ?_⟩
    rw [show its.toArray.any (eqU x) = its.any (eqU x) by simp, any_eqU r fs]
    exact q
theorem op_notIn_seq : OpR X (compareOp .NotIn) (rIn X.K true) := by
  intro pins s σ H x y v u Q I rx ry h
  obtain ⟨p, xs, rfl, hq, fx, fs, q⟩ := h
  cases ry
  rcases hq with hq | hq
  · obtain ⟨its, r, pl, hz⟩ := I.list hq
    refine SeqAt.notIn_listAt (eqU x) pl.isList (fun w hw => mem_eqAt rx fx r fs w (by simpa using hw)) ⟨.bl _, H, I, rfl, ?_⟩
    rw [show its.toArray.any (eqU x) = its.any (eqU x) by simp, any_eqU r fs]
    exact q
  · obtain ⟨its, r, pl, hz⟩ := I.tuple hq
    refine SeqAt.notIn_tupleAt (eqU x) pl (fun w hw => mem_eqAt rx fx r fs w (by simpa using hw)) ⟨.bl _, H, I, rfl, ?_⟩
    rw [show its.toArray.any (eqU x) = its.any (eqU x) by simp, any_eqU r fs]
    exact q

theorem call_len_seq : CallR X (.builtin "len") (fun xs H Q => ∃ p ys, xs = [.ref p] ∧ (SqL X.K H p ys ∨ SqT X.K H p ys) ∧ Q (.int ys.length) H) := by
  intro pins s σ H xs us Q I r h
  obtain ⟨p, ys, rfl, hq, q⟩ := h
  obtain ⟨u, rfl, rx⟩ := vals1 r
  cases rx
  have hn := line63
  rcases hq with hq | hq
  · obtain ⟨its, r', pl, hz⟩ := I.list hq
    have hlen := r'.length
    exact Calls.call_len_list pl.isList (by simp only [List.size_toArray] <;> omega) ⟨.int ys.length, H, I.tok _, ⟨s.toks + 1, by rw [List.size_toArray, hlen]⟩, q⟩
  · obtain ⟨its, r', pl, hz⟩ := I.tuple hq
    have hlen := r'.length
    exact len_tuple pl (by simp only [List.size_toArray] <;> omega) ⟨.int ys.length, H, I.tok _, ⟨s.toks + 1, by rw [List.size_toArray, hlen]⟩, q⟩
theorem call_list_of : CallR X (.type "list") (fun xs H Q => ∃ p ys, xs = [.ref p] ∧ (SqL X.K H p ys ∨ SqT X.K H p ys) ∧ ∀ l, H l = none → Q (.ref l) (upd H l (.lst ys))) := by
  intro pins s σ H xs us Q I r h
  obtain ⟨p, ys, rfl, hq, q⟩ := h
  obtain ⟨u, rfl, rx⟩ := vals1 r
  cases rx
  have fin : ∀ (its : List Value), Vals ys its → ys.length ≤ sizeLine → ∀ (h' : Heap) (c' : Nat), (∀ b o', s.heap.get? b = some o' → h'.get? b = some o') →
      h'.get? s.heap.objs.size = some { cls := .type "list", dict := none, data := .seq its.toArray c', slots := #[] } → EP X pins σ Q (.ref s.heap.objs.size) { s with heap := h' } := fun its r' hz h' c' kp e =>
    ⟨.ref s.heap.objs.size, _, I.laid (t' := s.toks) kp (Nat.le_refl _) (show ObjOk X.prog X.w _ h' _ (.lst ys) from ⟨hz, its, c', r', e⟩), rfl, q _ (I.hok.fresh (Nat.le_refl _))⟩
  rcases hq with hq | hq
  · obtain ⟨its, r', pl, hz⟩ := I.list hq
    have hlen := r'.length
    obtain ⟨o, ho, hc, n, hd⟩ := pl.isList
    exact call_list_seq p (.inl rfl) ho hc hd (fun h' c' kp e => fin its r' hz h' c' kp e) (by simp only [List.size_toArray] <;> omega)
  · obtain ⟨its, r', pl, hz⟩ := I.tuple hq
    have hlen := r'.length
    obtain ⟨o, ho, hc, n, hd⟩ := pl
    exact call_list_seq p (.inr rfl) ho hc hd (fun h' c' kp e => fin its r' hz h' c' kp e) (by simp only [List.size_toArray] <;> omega)

def tyV (K : PySem.W.Frag) (T : String) (x : V) (H : Hp) : Prop := match x with
  | .str _ => T = "str"
  | .int _ => T = "int"
  | .ref p => (T = "list" ∧ ∃ xs, SqL K H p xs) ∨ (T = "tuple" ∧ ∃ o, K.lookup p = some o ∧ o.cls = .type "tuple" ∧ o.dict = none) ∨
      (T = "dict" ∧ ((∃ kvs, H p = some (.dK kvs)) ∨ ∃ kvs, H p = some (.dT kvs))) ∨ (T = "set" ∧ ∃ S n, H p = some (.set S n))
  | _ => False
theorem tyV_is {pins : List (Addr × Obj)} {σ : St} {H : Hp} {s : Shared} {T : String} {x : V} {v : Value} (I : Inv X pins σ H s) (r : RelV x v) (ty : tyV X.K T x H) :
    s.TypeIs v T ∧ ∀ a, v = .ref a → ∃ ob, s.heap.get? a = some ob ∧ ob.dict = none := by
  cases x with
  | str z =>
    obtain ⟨t, rfl⟩ := r
    cases (show T = "str" from ty)
    exact ⟨typeIs_str s z t, fun _ e => nomatch e⟩
  | int i =>
    obtain ⟨t, rfl⟩ := r
    cases (show T = "int" from ty)
    exact ⟨typeIs_int s i t, fun _ e => nomatch e⟩
  | ref p =>
    cases r
    rcases ty with ⟨rfl, xs, hq⟩ | ⟨rfl, o, hk, hc, hd⟩ | ⟨rfl, hk⟩ | ⟨rfl, S, n, hk⟩
    · obtain ⟨its, _, pl, _⟩ := I.list hq
      refine ⟨pl.isList.typeIs, fun a e => ?_⟩
      cases e
      obtain ⟨o, n, e, c, hd, _⟩ := pl
      exact ⟨o, e, hd⟩
    · refine ⟨⟨o, I.kIn p o hk, hc⟩, fun a e => ?_⟩
      cases e
      exact ⟨o, I.kIn _ o hk, hd⟩
    · have z : ∃ o, s.heap.get? p = some o ∧ o.ExactDict := by
        rcases hk with ⟨kvs, hk⟩ | ⟨kvs, hk⟩
        · obtain ⟨_, _, _, _, o, _, _, e, ex, _⟩ := I.hok p _ hk
          exact ⟨o, e, ex⟩
        · obtain ⟨_, _, _, _, o, _, _, e, ex, _⟩ := I.hok p _ hk
          exact ⟨o, e, ex⟩
      obtain ⟨o, e, ex⟩ := z
      refine ⟨⟨o, e, ex.1⟩, fun a e2 => ?_⟩
      cases e2
      exact ⟨o, e, ex.2.1⟩
    · obtain ⟨o, _, _, _, e, ex, _⟩ := I.hok p _ hk
      refine ⟨⟨o, e, ex.1⟩, fun a e2 => ?_⟩
      cases e2
      exact ⟨o, e, ex.2.1⟩
  | _ => exact False.elim ty
def tBM0 (K : PySem.W.Frag) (T : String) (r : V → List V → Hp → VK → Prop) (to : TE) : TE := fun σ H Q => to σ H fun x H1 => tyV K T x H1 ∧ r x [] H1 Q
def tBM (K : PySem.W.Frag) (T : String) (r : V → List V → Hp → VK → Prop) (to : TE) (t : TA) : TE := fun σ H Q => to σ H fun x H1 => tyV K T x H1 ∧ t σ H1 fun xs H2 => r x xs H2 Q
variable {o e : Expr} {es : List Expr} {to : TE} {t : TA} {name : Str} {apos cpos : Pos} {T id : String} {r : V → List V → Hp → VK → Prop}
theorem pe_bm0 (pa : PlainAttrs T) (slot : Slot T name id) (hty : typeOf (.builtin id) = pure (.type "method_descriptor")) (hm : MtR X id r) (ho : PE X o to)
    (hbase : attributeBase o name X.env (eval o X.env) = eval o X.env := by rfl) (hline : (apos.endLine == cpos.line) = true := by rfl) : PE X (.Call (.Attribute o name apos) [] [] cpos) (tBM0 X.K T r to) := by
  intro pins s σ H Q I h
  refine wpAny_Call_method0_late hbase hline (thn (ho pins s σ H _ I h) fun v s1 ⟨x, H1, I1, r1, ty, q1⟩ => ?_)
  obtain ⟨h1, h2⟩ := tyV_is I1 r1 ty
  exact ⟨T, id, pa, slot, hty, h1, h2, Calls.callWith_builtin rfl (PySem.evalArgs_none (hm pins s1 σ H1 x [] v [] Q I1 r1 .nil q1))⟩
theorem pe_bm (pa : PlainAttrs T) (slot : Slot T name id) (hty : typeOf (.builtin id) = pure (.type "method_descriptor")) (hm : MtR X id r) (ho : PE X o to) (ha : PA X (e :: es) t)
    (hbase : attributeBase o name X.env (eval o X.env) = eval o X.env := by rfl)
    (hfew : ((backTo cpos (starEach (e :: es) X.env)).all (fun x => !x.1) && (backToKw cpos (keywordEach [] X.env)).all (fun x => x.1.isSome)
      && decide ((e :: es).length + ([] : List Keyword).length + (if ([] : List Keyword).isEmpty then 0 else 1) < 30)) = true := by rfl)
    (hline : (apos.endLine == cpos.line) = true := by rfl) (hs : starEach (e :: es) X.env = (false, eval e X.env) :: starEach es X.env := by rfl) (hplain : (backTo cpos (starEach es X.env)).any (·.1) = false := by rfl) :
    PE X (.Call (.Attribute o name apos) (e :: es) [] cpos) (tBM X.K T r to t) := by
  intro pins s σ H Q I h
  refine wpAny_Call_method_late hbase hfew hline rfl (thn (ho pins s σ H _ I h) fun v s1 ⟨x, H1, I1, r1, ty, q1⟩ => ?_)
  obtain ⟨h1, h2⟩ := tyV_is I1 r1 ty
  refine ⟨T, id, pa, slot, hty, h1, h2, ?_⟩
  have hA := ha cpos pins s1 σ H1 _ I1 q1
  rw [hs] at hA ⊢
  refine Calls.callWith_builtin (by show (false || (backTo cpos (starEach es X.env)).any (·.1)) = false; rw [hplain] <;> rfl) (Calls.evalArgs_plain ?_)
  exact thn hA fun us s2 ⟨vs, H2, I2, r2, q2⟩ => hm pins s2 σ H2 x vs v us Q I2 r1 r2 q2
end
end L2

namespace L2
open PySem PySem.Spec PyProof.Rows

def MtM (X : Cx) (id : String) (r : V → List V → Hp → VK → Prop) : Prop :=
  ∀ (pins : List (Addr × Obj)) (s : Shared) (σ : St) (H : Hp) (x : V) (xs : List V) (v : Value) (us : List Value) (Q : VK), Inv X pins σ H s → RelV x v → Vals xs us → r x xs H Q →
    wpAny (model X.prog X.w) X.A (call (.builtin id) (v :: us)) (EP X pins σ Q) X.xe s

theorem Vals.one : ∀ {x : V} {us : List Value}, Vals [x] us → ∃ u, us = [u] ∧ RelV x u
  | _, _, .cons r .nil => ⟨_, rfl, r⟩
theorem Vals.zero : ∀ {us : List Value}, Vals [] us → us = []
  | _, .nil => rfl
theorem Vals.dropLast {xs : List V} {us : List Value} (h : Vals xs us) : Vals xs.dropLast us.dropLast := by
  induction h with
  | nil => exact .nil
  | cons r t ih =>
    cases t with
    | nil => exact .nil
    | cons q t' => exact .cons r ih
theorem Vals.eraseIdx : ∀ {xs : List V} {us : List Value} (i : Nat), Vals xs us → Vals (xs.eraseIdx i) (us.eraseIdx i)
  | _, _, _, .nil => .nil
  | _, _, 0, .cons _ t => t
  | _, _, i + 1, .cons r t => .cons r (Vals.eraseIdx i t)
theorem Vals.reverse {xs : List V} {us : List Value} (h : Vals xs us) : Vals xs.reverse us.reverse := by
  induction h with
  | nil => exact .nil
  | cons r t ih => rw [List.reverse_cons, List.reverse_cons]; exact Vals.append ih (.cons r .nil)
theorem erase_last {α : Type} (l : List α) : l.eraseIdx (l.length - 1) = l.dropLast := by
  induction l with
  | nil => rfl
  | cons a r ih =>
    cases r with
    | nil => rfl
    | cons b r =>
      have e : (a :: b :: r).length - 1 = ((b :: r).length - 1) + 1 := by
        have h1 : (a :: b :: r).length = r.length + 2 := rfl
        have h2 : (b :: r).length = r.length + 1 := rfl
        omega
      rw [e, List.eraseIdx_cons_succ, ih]
      all_goals rfl
theorem len_erase {α : Type} : ∀ (l : List α) (i : Nat), (l.eraseIdx i).length ≤ l.length
  | [], _ => Nat.le_refl _
  | _ :: _, 0 => Nat.le_succ _
  | _ :: r, i + 1 => Nat.succ_le_succ (len_erase r i)

section
variable {X : Cx} {pins : List (Addr × Obj)} {σ : St} {H : Hp} {s : Shared} {l b : Addr} {xs ys zs : List V}

theorem Inv.lset {its its' : List Value} {n : Nat} {f : Array Value → Array Value} {t' : Nat} (I : Inv X pins σ H s) (hH : H l = some (.lst xs))
    (e : s.heap.get? l = some { cls := .type "list", data := .seq its.toArray n }) (hf : f its.toArray = its'.toArray) (hv : Vals ys its') (hz : ys.length ≤ sizeLine) :
    Inv X pins σ (upd H l (.lst ys)) { s with heap := s.heap.update l (Obj.mapSeq f), toks := t' } := by
  have q := PySem.IsL.update e f
  rw [hf] at q
  refine I.write (x := l) (e := l) (by rw [hH]; exact trivial) (.inl rfl) (fun b' u hb hu => (Heap.get?_update_other s.heap (Obj.mapSeq f) (Ne.symm hb)).trans hu) ⟨_, q⟩ ?_
  exact ⟨hz, its', _, hv, q⟩
theorem Inv.lnew {its : List Value} {t' : Nat} (I : Inv X pins σ H s) (hv : Vals ys its) (hz : ys.length ≤ sizeLine) :
    Inv X pins σ (upd H s.heap.objs.size (.lst ys)) { s with heap := s.heap.push { cls := .type "list", data := .seq its.toArray }, toks := t' } :=
  I.laid (fun _ _ q => Heap.get?_push_of_some _ q) (Nat.le_refl _) ⟨hz, its, 0, hv, Heap.get?_push_size _ rfl⟩
theorem Inv.fresh (I : Inv X pins σ H s) : H s.heap.objs.size = none := I.hok.fresh (Nat.le_refl _)
theorem Inv.lstM (I : Inv X pins σ H s) (hH : H l = some (.lst xs)) : xs.length ≤ sizeLine ∧ ∃ (its : List Value) (n : Nat), Vals xs its ∧ xs.length = its.length ∧ s.heap.get? l = some { cls := .type "list", data := .seq its.toArray n } := by
  obtain ⟨z, its, n, r, e⟩ := I.hok l _ hH
  exact ⟨z, its, n, r, r.length, e⟩

theorem notLongL {n : Nat} (h : n ≤ sizeLine) : Builtin.List.listTooLong n = false := by
  unfold Builtin.List.listTooLong
  exact decide_eq_false (by omega)
end

section
variable {X : Cx}

def rAppend : V → List V → Hp → VK → Prop := fun x vs H Q => ∃ l xs y, x = .ref l ∧ vs = [y] ∧ H l = some (.lst xs) ∧ xs.length < sizeLine ∧ Q .non (upd H l (.lst (xs ++ [y])))
theorem mt_append : MtM X "list.append" rAppend := by
  intro pins s σ H x vs v us Q I rx rv h
  obtain ⟨l, xs, y, rfl, rfl, hH, hz, q⟩ := h
  cases rx
  obtain ⟨u, rfl, ru⟩ := rv.one
  obtain ⟨z, its, n, r, hl, e⟩ := I.lstM hH
  refine call_meets F.slot_list_append ⟨_, e, rfl⟩ F.entry_list_append (F.args_list_append_2 _ _) (PySem.list_append l its.toArray n u (by rw [List.size_toArray]; omega)) ⟨e, ?_⟩
  refine ⟨.non, _, I.lset (its' := its ++ [u]) hH e (by simp) (r.append (.cons ru .nil)) ?_, rfl, q⟩
  rw [List.length_append, List.length_singleton]
  omega

def rExtend : V → List V → Hp → VK → Prop := fun x vs H Q => ∃ l b xs zs, x = .ref l ∧ vs = [.ref b] ∧ H l = some (.lst xs) ∧ H b = some (.lst zs) ∧ xs.length + zs.length ≤ sizeLine ∧ Q .non (upd H l (.lst (xs ++ zs)))
theorem mt_extend : MtM X "list.extend" rExtend := by
  intro pins s σ H x vs v us Q I rx rv h
  obtain ⟨l, b, xs, zs, rfl, rfl, hH, hB, hz, q⟩ := h
  cases rx
  obtain ⟨u, rfl, ru⟩ := rv.one
  cases ru
  obtain ⟨z, its, n, r, hl, e⟩ := I.lstM hH
  obtain ⟨z2, its2, n2, r2, hl2, e2⟩ := I.lstM hB
  have hsz : its.toArray.size + its2.toArray.size ≤ sizeLine := by rw [List.size_toArray, List.size_toArray]; omega
  have hlong : ¬ (!its.toArray.isEmpty && Builtin.List.listTooLong (its.toArray.size + its2.toArray.size)) = true := by
    rw [notLongL hsz, Bool.and_false]
    exact Bool.false_ne_true
  refine call_meets F.slot_list_extend ⟨_, e, rfl⟩ F.entry_list_extend (F.args_list_extend_2 _ _)
    (AutoSeq1.list_extend_list_list_0 l its.toArray n b its2.toArray n2 hlong (by rw [List.size_toArray]; omega) (by omega)) ⟨e, e2, ?_⟩
  refine ⟨.non, _, I.lset (its' := its ++ its2) hH e (by simp) (r.append r2) ?_, rfl, q⟩
  rw [List.length_append]
  omega

def rPop : V → List V → Hp → VK → Prop := fun x vs H Q => ∃ l xs y, x = .ref l ∧ vs = [] ∧ H l = some (.lst xs) ∧ xs[xs.length - 1]? = some y ∧ Q y (upd H l (.lst xs.dropLast))
theorem mt_pop : MtM X "list.pop" rPop := by
  intro pins s σ H x vs v us Q I rx rv h
  obtain ⟨l, xs, y, rfl, rfl, hH, hy, q⟩ := h
  cases rx
  have hus := rv.zero
  subst hus
  obtain ⟨z, its, n, r, hl, e⟩ := I.lstM hH
  obtain ⟨u, hu, ru⟩ := r.get hy
  have hy' : its.toArray[its.toArray.size - 1]? = some u := by
    show its.toArray[its.length - 1]? = some u
    rw [← Array.getElem?_toList, ← hl]
    exact hu
  refine call_meets F.slot_list_pop ⟨_, e, rfl⟩ F.entry_list_pop (F.args_list_pop_1 _) (MeetsSeq.list_pop_last l its.toArray n u hy' (by rw [List.size_toArray]; omega)) ⟨e, ?_⟩
  refine ⟨y, _, I.lset (its' := its.dropLast) hH e ?_ r.dropLast ?_, ru, q⟩
  · show its.toArray.eraseIdxIfInBounds (its.toArray.size - 1) = its.dropLast.toArray
    rw [List.size_toArray, List.eraseIdxIfInBounds_toArray, erase_last]
  · rw [List.length_dropLast]
    omega

def rPopAt : V → List V → Hp → VK → Prop := fun x vs H Q => ∃ l xs i k y, x = .ref l ∧ vs = [.int i] ∧ H l = some (.lst xs) ∧ -(2 ^ 63) ≤ i ∧ i < 2 ^ 63 ∧ seqIndex? i xs.length = some k ∧ xs[k]? = some y ∧ Q y (upd H l (.lst (xs.eraseIdx k)))
theorem mt_popAt : MtM X "list.pop" rPopAt := by
  intro pins s σ H x vs v us Q I rx rv h
  obtain ⟨l, xs, i, k, y, rfl, rfl, hH, h1, h2, hk, hy, q⟩ := h
  cases rx
  obtain ⟨u, rfl, ru⟩ := rv.one
  obtain ⟨t, rfl⟩ := ru
  obtain ⟨z, its, n, r, hl, e⟩ := I.lstM hH
  obtain ⟨w, hw, rw'⟩ := r.get hy
  refine call_meets F.slot_list_pop ⟨_, e, rfl⟩ F.entry_list_pop (F.args_list_pop_2 _ _)
    (MeetsSeq.list_pop_at l its.toArray n i t k w (fitsIndex_both h1 h2) (by rw [List.size_toArray, ← hl]; exact hk) (by rw [← Array.getElem?_toList]; exact hw) (by rw [List.size_toArray]; omega)) ⟨e, ?_⟩
  refine ⟨y, _, I.lset (its' := its.eraseIdx k) hH e ?_ (r.eraseIdx k) ?_, rw', q⟩
  · show its.toArray.eraseIdxIfInBounds k = (its.eraseIdx k).toArray
    rw [List.eraseIdxIfInBounds_toArray]
  · have := len_erase xs k
    omega


def rClear : V → List V → Hp → VK → Prop := fun x vs H Q => ∃ l xs, x = .ref l ∧ vs = [] ∧ H l = some (.lst xs) ∧ Q .non (upd H l (.lst []))
theorem mt_clear : MtM X "list.clear" rClear := by
  intro pins s σ H x vs v us Q I rx rv h
  obtain ⟨l, xs, rfl, rfl, hH, q⟩ := h
  cases rx
  have hus := rv.zero
  subst hus
  obtain ⟨z, its, n, r, hl, e⟩ := I.lstM hH
  refine call_meets F.slot_list_clear ⟨_, e, rfl⟩ F.entry_list_clear (F.args_list_clear_1 _) (AutoSeq1.list_clear_list_0 l its.toArray n (by rw [List.size_toArray]; omega)) ⟨e, ?_⟩
  exact ⟨.non, _, I.lset (its' := []) (ys := []) hH e rfl .nil (Nat.zero_le _), rfl, q⟩

def rCat : R2 := fun x y H Q => ∃ l b xs zs, x = .ref l ∧ y = .ref b ∧ H l = some (.lst xs) ∧ H b = some (.lst zs) ∧ xs.length + zs.length ≤ sizeLine ∧ ∀ p, H p = none → Q (.ref p) (upd H p (.lst (xs ++ zs)))
theorem op_cat : OpR X (binaryOp .Add) rCat := by
  intro pins s σ H x y v u Q I rx ry h
  obtain ⟨l, b, xs, zs, rfl, rfl, hH, hB, hz, q⟩ := h
  cases rx
  cases ry
  obtain ⟨z, its, n, r, hl, e⟩ := I.lstM hH
  obtain ⟨z2, its2, n2, r2, hl2, e2⟩ := I.lstM hB
  refine PySem.P.add_list e e2 ?_ (by rw [List.size_toArray, List.size_toArray]; omega)
  have ea : its.toArray ++ its2.toArray = (its ++ its2).toArray := by simp
  rw [ea]
  exact ⟨.ref _, _, I.lnew (t' := s.toks) (r.append r2) (by rw [List.length_append]; omega), rfl, q _ I.fresh⟩

end

section
variable {prog : Program} {w : World} {A : Around} {E : Value → Shared → Prop} {s : Shared}
end

section
variable {X : Cx}
end
end L2

namespace L2
open PySem PySem.Spec PyProof.Rows

section
variable {κ : Type} [DecidableEq κ]
def valV (kvs : List (κ × V)) (k : κ) : Option V := (kvs.find? fun kv => decide (kv.1 = k)).map (·.2)
def putK (kvs : List (κ × V)) (k : κ) (v : V) : List (κ × V) :=
  if (kvs.any fun kv => decide (kv.1 = k)) = true then kvs.map (fun kv => if kv.1 = k then (kv.1, v) else kv) else kvs ++ [(k, v)]

theorem valV_nil {k : κ} : valV ([] : List (κ × V)) k = none := rfl
theorem valV_pos {p : κ × V} {r : List (κ × V)} {k : κ} (e : p.1 = k) : valV (p :: r) k = some p.2 := by simp [valV, List.find?_cons, e]
theorem valV_neg {p : κ × V} {r : List (κ × V)} {k : κ} (e : ¬ p.1 = k) : valV (p :: r) k = valV r k := by simp [valV, List.find?_cons, e]
theorem valV_any (k : κ) : ∀ kvs : List (κ × V), (kvs.any fun kv => decide (kv.1 = k)) = (valV kvs k).isSome
  | [] => rfl
  | p :: r => by
    rw [List.any_cons]
    by_cases e : p.1 = k
    · simp only [valV_pos e, decide_eq_true e, Bool.true_or, Option.isSome_some]
    · rw [valV_neg e, decide_eq_false e, Bool.false_or]; exact valV_any k r
theorem valV_map (k j : κ) (y : V) : ∀ kvs : List (κ × V), valV (kvs.map fun kv => if kv.1 = k then (kv.1, y) else kv) j = (valV kvs j).map fun x => if j = k then y else x
  | [] => rfl
  | p :: r => by
    have ih := valV_map k j y r
    rw [List.map_cons]
    by_cases h : p.1 = k
    · rw [if_pos h]
      by_cases e : p.1 = j
      · rw [valV_pos (p := (p.1, y)) e, valV_pos e, Option.map_some, if_pos (e.symm.trans h)]
      · rw [valV_neg (p := (p.1, y)) e, valV_neg e, ih]
    · rw [if_neg h]
      by_cases e : p.1 = j
      · rw [valV_pos (p := p) e, valV_pos e, Option.map_some, if_neg (fun z => h (e.trans z))]
      · rw [valV_neg (p := p) e, valV_neg e, ih]
theorem valV_snoc (k j : κ) (y : V) : ∀ kvs : List (κ × V), valV kvs k = none → valV (kvs ++ [(k, y)]) j = if j = k then some y else valV kvs j
  | [], _ => by
    by_cases e : k = j
    · rw [if_pos e.symm]; exact valV_pos (p := (k, y)) e
    · rw [if_neg (fun z => e z.symm)]; exact valV_neg (p := (k, y)) e
  | p :: r, hn => by
    rw [List.cons_append]
    have hk : ¬ p.1 = k := fun z => by rw [valV_pos z] at hn; cases hn
    rw [valV_neg hk] at hn
    have ih := valV_snoc k j y r hn
    by_cases e : p.1 = j
    · rw [valV_pos e, valV_pos e, if_neg (fun z => hk (e.trans z))]
    · rw [valV_neg e, valV_neg e, ih]
theorem valV_put (kvs : List (κ × V)) (k j : κ) (y : V) : valV (putK kvs k y) j = if j = k then some y else valV kvs j := by
  unfold putK
  by_cases a : (kvs.any fun kv => decide (kv.1 = k)) = true
  · rw [if_pos a, valV_map]
    rw [valV_any] at a
    by_cases e : j = k
    · obtain ⟨x, hx⟩ := Option.isSome_iff_exists.mp a
      rw [if_pos e, e, hx, Option.map_some, if_pos rfl]
    · rw [if_neg e]
      cases valV kvs j with
      | none => rfl
      | some x => rw [Option.map_some, if_neg e]
  · rw [if_neg a]
    refine valV_snoc k j y kvs ?_
    rw [valV_any] at a
    cases q : valV kvs k with
    | none => rfl
    | some x => rw [q] at a; exact (a rfl).elim
theorem length_putK (kvs : List (κ × V)) (k : κ) (v : V) : (putK kvs k v).length ≤ kvs.length + 1 := by
  unfold putK
  split
  · rw [List.length_map]; omega
  · rw [List.length_append, List.length_cons, List.length_nil]; omega
theorem putK_new {kvs : List (κ × V)} {k : κ} (v : V) (h : valV kvs k = none) : putK kvs k v = kvs ++ [(k, v)] := by
  unfold putK
  rw [valV_any, h]
  exact if_neg (by decide)

theorem RelO.isSome_eq {o : Option V} {u : Option Value} (r : RelO o u) : o.isSome = u.isSome := by
  cases o with
  | none => cases u with
    | none => rfl
    | some _ => exact (show False from r).elim
  | some _ => cases u with
    | none => exact (show False from r).elim
    | some _ => rfl

theorem KV.val {kvs : List (κ × V)} {vs : List (κ × Value)} (r : KV kvs vs) (k : κ) : RelO (valV kvs k) (valueAt vs k) := by
  unfold KV at r
  induction r with
  | nil => exact True.intro
  | @cons p q ps qs h t ih =>
    obtain ⟨h1, h2⟩ := h
    by_cases e : p.1 = k
    · have e' : q.1 = k := h1.symm.trans e
      have b : valueAt (q :: qs) k = some q.2 := by simp [valueAt, List.find?_cons, e']
      rw [valV_pos e, b]; exact h2
    · have e' : ¬ q.1 = k := fun z => e (h1.trans z)
      have b : valueAt (q :: qs) k = valueAt qs k := by simp [valueAt, List.find?_cons, e']
      rw [valV_neg e, b]; exact ih
theorem KV.any {kvs : List (κ × V)} {vs : List (κ × Value)} (r : KV kvs vs) (k : κ) : (kvs.any fun kv => decide (kv.1 = k)) = vs.any fun kv => decide (kv.1 = k) := by
  unfold KV at r
  induction r with
  | nil => rfl
  | cons h t ih => rw [List.any_cons, List.any_cons, ih, h.1]
theorem KV.repl {kvs : List (κ × V)} {vs : List (κ × Value)} (r : KV kvs vs) (k : κ) {y : V} {u : Value} (ry : RelV y u) :
    KV (kvs.map fun kv => if kv.1 = k then (kv.1, y) else kv) (vs.map fun kv => if kv.1 = k then (kv.1, u) else kv) := by
  unfold KV at r ⊢
  induction r with
  | nil => exact .nil
  | @cons p q ps qs h t ih =>
    rw [List.map_cons, List.map_cons]
    refine .cons ?_ ih
    obtain ⟨h1, h2⟩ := h
    by_cases e : p.1 = k
    · rw [if_pos e, if_pos (h1.symm.trans e)]; exact ⟨h1, ry⟩
    · rw [if_neg e, if_neg (fun z => e (h1.trans z))]; exact ⟨h1, h2⟩
theorem KV.put {kvs : List (κ × V)} {vs : List (κ × Value)} (r : KV kvs vs) (k : κ) {y : V} {u : Value} (ry : RelV y u) : KV (putK kvs k y) (stored vs k u) := by
  unfold putK stored
  rw [r.any k]
  by_cases e : (vs.any fun kv => decide (kv.1 = k)) = true
  · rw [if_pos e, if_pos e]; exact r.repl k ry
  · rw [if_neg e, if_neg e]; exact Paired.snoc r ⟨rfl, ry⟩
theorem KV.length {kvs : List (κ × V)} {vs : List (κ × Value)} (r : KV kvs vs) : kvs.length = vs.length := Paired.length r
end


theorem kV_is {P : Program} {w : World} {k : Key} {u : Value} (r : RelV (kV k) u) : (mixKind P w).is k u = true := by
  cases k with
  | inl i => obtain ⟨t, e⟩ := (show ∃ t, u = Value.int i t from r); subst e; exact mixKind_int P w i t
  | inr x => obtain ⟨t, e⟩ := (show ∃ t, u = Value.str x t from r); subst e; exact mixKind_str P w x t
theorem items_are {P : Program} {w : World} : ∀ {ks : List Key} {us : List Value}, Vals (ks.map kV) us → ItemsAre (mixKind P w) ks us
  | [], _, r => by rw [List.map_nil] at r; cases r; exact .nil
  | k :: ks, _, r => by
    rw [List.map_cons] at r
    cases r with
    | cons h t => exact .cons (kV_is h) (items_are t)

abbrev KT (H : Hp) : List (List Key × V) → List (List Key × Addr × Value) → Prop := Paired fun p q => p.1 = q.1 ∧ H q.2.1 = some (.tup (p.1.map kV)) ∧ RelV p.2 q.2.2
theorem KT.val {H : Hp} {kvs : List (List Key × V)} {xs : List (List Key × Addr × Value)} (r : KT H kvs xs) (k : List Key) : RelO (valV kvs k) ((atKey xs k).map (·.2)) := by
  induction r with
  | nil => exact True.intro
  | @cons p q ps qs h t ih =>
    obtain ⟨h1, _, h2⟩ := h
    by_cases e : p.1 = k
    · have e' : q.1 = k := h1.symm.trans e
      have b : atKey (q :: qs) k = some q.2 := by simp [atKey, List.find?_cons, e']
      rw [valV_pos e, b]; exact h2
    · have e' : ¬ q.1 = k := fun z => e (h1.trans z)
      have b : atKey (q :: qs) k = atKey qs k := by simp [atKey, List.find?_cons, e']
      rw [valV_neg e, b]; exact ih
theorem KT.repl {H : Hp} {kvs : List (List Key × V)} {xs : List (List Key × Addr × Value)} (r : KT H kvs xs) (k : List Key) {y : V} {u : Value} (ry : RelV y u) :
    KT H (kvs.map fun kv => if kv.1 = k then (kv.1, y) else kv) (xs.map (putAt k u)) := by
  induction r with
  | nil => exact .nil
  | @cons p q ps qs h t ih =>
    rw [List.map_cons, List.map_cons]
    refine .cons ?_ ih
    obtain ⟨h1, h2, h3⟩ := h
    unfold putAt
    by_cases e : p.1 = k
    · rw [if_pos e, if_pos (h1.symm.trans e)]; exact ⟨h1, h2, ry⟩
    · rw [if_neg e, if_neg (fun z => e (h1.trans z))]; exact ⟨h1, h2, h3⟩
theorem KT.put {H : Hp} {kvs : List (List Key × V)} {xs : List (List Key × Addr × Value)} (r : KT H kvs xs) (k : List Key) {b : Addr} {y : V} {u : Value} (hb : H b = some (.tup (k.map kV))) (ry : RelV y u) :
    KT H (putK kvs k y) (storedH xs k b u) := by
  have e : (kvs.any fun kv => decide (kv.1 = k)) = (atKey xs k).isSome := by
    rw [valV_any, (r.val k).isSome_eq, Option.isSome_map]
  unfold putK storedH
  rw [e]
  by_cases q : (atKey xs k).isSome = true
  · rw [if_pos q, if_pos q]; exact r.repl k ry
  · rw [if_neg q, if_neg q]; exact Paired.snoc r ⟨rfl, hb, ry⟩
theorem KT.keeps {H H' : Hp} {kvs : List (List Key × V)} {xs : List (List Key × Addr × Value)} (r : KT H kvs xs) (ht : ∀ b ys, H b = some (.tup ys) → H' b = some (.tup ys)) : KT H' kvs xs :=
  Paired.mapP r fun _ _ z => ⟨z.1, ht _ _ z.2.1, z.2.2⟩

section
variable {P : Program} {w : World} {H : Hp} {h : Heap} {a : Addr}
theorem rd_of {u : HO} (ok : HOk P w H h) (e : Rd H a u) : ObjOk P w H h a u := e.ok ok
theorem dk_rd {kvs : List (Key × V)} (ok : HOk P w H h) (e : Rd H a (.dK kvs)) : kvs.length ≤ sizeLine ∧ (a == sysModules) = false ∧ ∃ vs, KV kvs vs ∧ h.DictOf (mixKind P w) a vs :=
  show ObjOk P w H h a (.dK kvs) from rd_of ok e
theorem dk_of {kvs : List (Key × V)} (ok : HOk P w H h) (e : H a = some (.dK kvs)) : kvs.length ≤ sizeLine ∧ (a == sysModules) = false ∧ ∃ vs, KV kvs vs ∧ h.DictOf (mixKind P w) a vs := dk_rd ok (.inl e)
theorem key_of {ks : List Key} (ok : HOk P w H h) (e : H a = some (.tup (ks.map kV))) : (tupleKind (mixKind P w)).is h ks a := by
  obtain ⟨_, its, r, o, h1, h2, n, h3⟩ := (show ObjOk P w H h a (.tup (ks.map kV)) from ok a _ e)
  exact ⟨o, its.toArray, n, h1, h2, h3, by simpa using items_are r⟩
theorem dt_rd {kvs : List (List Key × V)} (ok : HOk P w H h) (e : Rd H a (.dT kvs)) : kvs.length ≤ sizeLine ∧ (a == sysModules) = false ∧
    ∃ xs, KT H kvs xs ∧ h.DictOfH (tupleKind (mixKind P w)) a xs := by
  obtain ⟨z, y, xs, r, o, es, ep, h1, h2, h3, h4, h5⟩ := (show ObjOk P w H h a (.dT kvs) from rd_of ok e)
  refine ⟨z, y, xs, r, o, es, ep, h1, h2, h3, h4, fun x hx => ?_, h5⟩
  have all : ∀ {l : List (List Key × V)} {m : List (List Key × Addr × Value)}, KT H l m → ∀ x ∈ m, (tupleKind (mixKind P w)).is h x.1 x.2.1 := by
    intro l m q
    induction q with
    | nil => intro x hx; exact nomatch hx
    | @cons p q ps qs hq t ih =>
      intro x hx
      rcases List.mem_cons.mp hx with e | hx
      · subst e
        exact key_of ok (by rw [← hq.1]; exact hq.2.1)
      · exact ih x hx
  exact all r x hx
theorem dt_of {kvs : List (List Key × V)} (ok : HOk P w H h) (e : H a = some (.dT kvs)) : kvs.length ≤ sizeLine ∧ (a == sysModules) = false ∧
    ∃ xs, KT H kvs xs ∧ h.DictOfH (tupleKind (mixKind P w)) a xs := dt_rd ok (.inl e)
end

def DGet (H : Hp) (a : Addr) (y : V) (r : Option V) : Prop :=
  (∃ kvs k, Rd H a (.dK kvs) ∧ y = kV k ∧ r = valV kvs k) ∨ ∃ kvs k b, Rd H a (.dT kvs) ∧ y = .ref b ∧ H b = some (.tup (k.map kV)) ∧ r = valV kvs k
def DPut (H : Hp) (a : Addr) (y v : V) (H' : Hp) : Prop :=
  (∃ kvs k, H a = some (.dK kvs) ∧ y = kV k ∧ kvs.length < sizeLine ∧ H' = upd H a (.dK (putK kvs k v))) ∨
  ∃ kvs k b, H a = some (.dT kvs) ∧ y = .ref b ∧ H b = some (.tup (k.map kV)) ∧ kvs.length < sizeLine ∧ H' = upd H a (.dT (putK kvs k v))
theorem DGet.k {H : Hp} {a : Addr} {kvs : List (Key × V)} {k : Key} (e : H a = some (.dK kvs)) : DGet H a (kV k) (valV kvs k) := .inl ⟨kvs, k, .inl e, rfl, rfl⟩
theorem DGet.t {H : Hp} {a b : Addr} {kvs : List (List Key × V)} {k : List Key} (e : H a = some (.dT kvs)) (eb : H b = some (.tup (k.map kV))) : DGet H a (.ref b) (valV kvs k) := .inr ⟨kvs, k, b, .inl e, rfl, eb, rfl⟩
theorem DPut.k {H : Hp} {a : Addr} {kvs : List (Key × V)} {k : Key} {v : V} (e : H a = some (.dK kvs)) (hl : kvs.length < sizeLine) : DPut H a (kV k) v (upd H a (.dK (putK kvs k v))) := .inl ⟨kvs, k, e, rfl, hl, rfl⟩
theorem DPut.t {H : Hp} {a b : Addr} {kvs : List (List Key × V)} {k : List Key} {v : V} (e : H a = some (.dT kvs)) (eb : H b = some (.tup (k.map kV))) (hl : kvs.length < sizeLine) :
    DPut H a (.ref b) v (upd H a (.dT (putK kvs k v))) := .inr ⟨kvs, k, b, e, rfl, eb, hl, rfl⟩


section
variable {X : Cx} {pins : List (Addr × Obj)} {σ : St} {H : Hp} {s : Shared} {a : Addr} {y v : V} {u r : Value} {o : Option V} {A : Around} {E : Value → Shared → Prop}

theorem Inv.big (I : Inv X pins σ H s) : sysModules < s.heap.objs.size := by
  have h : mainGlobals < s.heap.objs.size := (I.mod.glob.keeps I.bk).lt
  exact Nat.lt_trans (by decide) h

theorem d_getItem {Q : Value → Shared → Prop} (hu : A.units + 1 < cLine) (I : Inv X pins σ H s) (g : DGet H a y (some v)) (ry : RelV y u) (h : ∀ w' s', Inv X pins σ H s' → RelV v w' → Q w' s') :
    wpAny (model X.prog X.w) A (getItem (.ref a) u) Q E s := by
  rcases g with ⟨kvs, k, e, ey, l⟩ | ⟨kvs, k, b, e, ey, eb, l⟩
  · subst ey
    obtain ⟨z, hd, vs, rel, dd⟩ := dk_rd I.hok e
    obtain ⟨w', hw, rw'⟩ := RelO.some_of (v := v) (o := valueAt vs k) (by rw [l]; exact rel.val k)
    exact wpAny_getItem_of (kV_is ry) dd.mapOf hw (h w' _ (I.tok _) rw')
  · subst ey
    cases (show u = Value.ref b from ry)
    obtain ⟨z, hd, xs, rel, dd⟩ := dt_rd I.hok e
    obtain ⟨w', hw, rw'⟩ := RelO.some_of (v := v) (o := (atKey xs k).map (·.2)) (by rw [l]; exact rel.val k)
    obtain ⟨p, hp, hp2⟩ := Option.map_eq_some_iff.mp hw
    refine wpAny_getItem_heap (tupleKind_room_in1 hu) (key_of I.hok eb) dd hp ?_
    rw [hp2]
    exact h w' _ (I.tok _) rw'
theorem d_in {Q : Value → Shared → Prop} (hu : A.units + 1 < cLine) (I : Inv X pins σ H s) (g : DGet H a y o) (ry : RelV y u) (h : ∀ s', Inv X pins σ H s' → Q (.bool o.isSome) s') :
    wpAny (model X.prog X.w) A (compareOp .In u (.ref a)) Q E s := by
  rcases g with ⟨kvs, k, e, ey, l⟩ | ⟨kvs, k, b, e, ey, eb, l⟩
  · subst ey
    obtain ⟨z, hd, vs, rel, dd⟩ := dk_rd I.hok e
    refine wpAny_in_of (kV_is ry) hd dd.mapOf ?_
    rw [← (rel.val k).isSome_eq, ← l]
    exact h _ (I.tok _)
  · subst ey
    cases (show u = Value.ref b from ry)
    obtain ⟨z, hd, xs, rel, dd⟩ := dt_rd I.hok e
    refine wpAny_in_heap (tupleKind_room_in1 hu) (key_of I.hok eb) hd dd ?_
    have q := (rel.val k).isSome_eq
    rw [Option.isSome_map] at q
    rw [← q, ← l]
    exact h _ (I.tok _)
theorem d_notIn {Q : Value → Shared → Prop} (hu : A.units + 1 < cLine) (I : Inv X pins σ H s) (g : DGet H a y o) (ry : RelV y u) (h : ∀ s', Inv X pins σ H s' → Q (.bool (!o.isSome)) s') :
    wpAny (model X.prog X.w) A (compareOp .NotIn u (.ref a)) Q E s := by
  rcases g with ⟨kvs, k, e, ey, l⟩ | ⟨kvs, k, b, e, ey, eb, l⟩
  · subst ey
    obtain ⟨z, hd, vs, rel, dd⟩ := dk_rd I.hok e
    refine wpAny_notIn_of (kV_is ry) hd dd.mapOf ?_
    rw [← (rel.val k).isSome_eq, ← l]
    exact h _ (I.tok _)
  · subst ey
    cases (show u = Value.ref b from ry)
    obtain ⟨z, hd, xs, rel, dd⟩ := dt_rd I.hok e
    refine wpAny_notIn_heap (tupleKind_room_in1 hu) (key_of I.hok eb) hd dd ?_
    have q := (rel.val k).isSome_eq
    rw [Option.isSome_map] at q
    rw [← q, ← l]
    exact h _ (I.tok _)
theorem d_write {h' : Heap} {t' : Nat} {ob : HO} (I : Inv X pins σ H s) (mu : Mut (H a)) (hs : Heap.SameBut a s.heap h') (he : ∃ q, h'.get? a = some q) (new : ObjOk X.prog X.w (upd H a ob) h' a ob) :
    Inv X pins σ (upd H a ob) { s with heap := h', toks := t' } :=
  I.write (x := a) (e := a) mu (.inl rfl) (fun b q hb z => (hs.2 b hb).trans z) he new
theorem dk_new {P : Program} {w : World} {H' : Hp} {h' : Heap} {kvs : List (Key × V)} {vs : List (Key × Value)} (z : kvs.length ≤ sizeLine) (hd : (a == sysModules) = false) (rel : KV kvs vs) (dd : h'.DictOf (mixKind P w) a vs) :
    ObjOk P w H' h' a (.dK kvs) := ⟨z, hd, vs, rel, dd⟩
theorem d_setItem {H' : Hp} {Q : Unit → Shared → Prop} (hu : A.units + 1 < cLine) (I : Inv X pins σ H s) (g : DPut H a y v H') (ry : RelV y u) (rv : RelV v r) (h : ∀ s', Inv X pins σ H' s' → Q () s') :
    wpAny (model X.prog X.w) A (setItem (.ref a) u r) Q E s := by
  rcases g with ⟨kvs, k, e, ey, l, eH⟩ | ⟨kvs, k, b, e, ey, eb, l, eH⟩
  · subst ey eH
    obtain ⟨z, hd, vs, rel, dd⟩ := dk_of I.hok e
    have hz : vs.length ≤ sizeLine := by rw [← rel.length]; exact z
    have hl : (putK kvs k v).length ≤ sizeLine := by have := length_putK kvs k v; omega
    refine wpAny_setItem_pairs (hsz := hz) (kV_is ry) dd fun h' dd' hs => h _ ?_
    have he : ∃ q, h'.get? a = some q := let ⟨q, _, _, hq, _⟩ := dd'; ⟨q, hq⟩
    exact d_write I (by rw [e]; exact True.intro) hs he (dk_new hl hd (rel.put k rv) dd')
  · subst ey eH
    cases (show u = Value.ref b from ry)
    obtain ⟨z, hd, xs, rel, dd⟩ := dt_of I.hok e
    have hz : xs.length ≤ sizeLine := by rw [← Paired.length rel]; exact z
    have hl : (putK kvs k v).length ≤ sizeLine := by have := length_putK kvs k v; omega
    refine wpAny_setItem_heap (hsz := hz) (tupleKind_room_in1 hu) (key_of I.hok eb) dd fun h' dd' hs => h _ ?_
    obtain ⟨q, es, ep, hq, h2, h3, h4, _, h5⟩ := dd'
    refine d_write I (by rw [e]; exact True.intro) hs ⟨q, hq⟩ ⟨hl, hd, _, (rel.put k eb rv).keeps fun c ys ec => ?_, q, es, ep, hq, h2, h3, h4, h5⟩
    rw [upd_ne (ne_of ec e (fun z => nomatch z))]
    exact ec
end

section
variable {X : Cx} {pins : List (Addr × Obj)} {σ : St} {H : Hp} {s : Shared} {a : Addr} {kvs : List (Key × V)} {k : Key} {u : Value} {A : Around} {E : Value → Shared → Prop}
end


def NoSl (i : Expr) : Prop := ∀ ov iv, subscripted i false ov iv = operate [ov, iv] (getItem ov iv)
theorem subD_of {prog : Program} {w : World} {A : Around} {E : Value → Shared → Prop} {s : Shared} {env : Env} {value slice : Expr} {pos : Pos} {T id : String} {Q : Value → Shared → Prop}
    (hl : typeLookup (.type T) "__getitem__" = pure (some (.builtin id))) (hs : NoSl slice)
    (h : wpAny (model prog w) A (eval value env) (fun o s₁ => wpAny (model prog w) A (eval slice env) (fun i s₂ => s₂.TypeIs o T ∧ wpAny (model prog w) A (getItem o i) Q E s₂) E s₁) E s) :
    wpAny (model prog w) A (eval (.Subscript value slice pos) env) Q E s := by
  refine Subscript_ (wpAny_mono h (fun o s₁ h₁ => wpAny_mono h₁ (fun i s₂ h₂ => ?_) fun _ _ x => x) fun _ _ x => x)
  obtain ⟨hT, h₂⟩ := h₂
  unfold subscriptTail
  refine wpAny_bind ?_
  rw [getitemInPython_of_ne hT.not_modules]
  refine wpAny_bind (wpAny_specialOf hT hl ?_)
  have fin : wpAny (model prog w) A (subscripted slice false o i) (fun r s₃ => wpAny (model prog w) A (letTemporaryGo value o r >>= fun _ => pure r) Q E s₃) E s₂ := by
    rw [hs o i]
    exact wpAny_operating (wpAny_mono h₂ (fun r s₃ h₃ => wpAny_bind (wpAny_letTemporaryGo (wpAny_pure h₃))) fun _ _ x => x)
  first
    | exact wpAny_pure (wpAny_bind fin)
    | exact wpAny_bind (wpAny_pure (wpAny_bind fin))
    | exact wpAny_bind fin

theorem dict_typeIs {X : Cx} {pins : List (Addr × Obj)} {σ : St} {H : Hp} {s : Shared} {a : Addr} {y : V} {o : Option V} (I : Inv X pins σ H s) (g : DGet H a y o) : s.TypeIs (.ref a) "dict" := by
  rcases g with ⟨kvs, k, e, _, _⟩ | ⟨kvs, k, b, e, _, _, _⟩
  · obtain ⟨_, _, vs, _, dd⟩ := dk_rd I.hok e
    exact dd.typeIs
  · obtain ⟨_, _, xs, _, dd⟩ := dt_rd I.hok e
    exact dd.typeIs

def tDGet (td ty : TE) : TE := fun σ H Q => td σ H fun x H1 => ty σ H1 fun y H2 => ∃ a v, x = .ref a ∧ DGet H2 a y (some v) ∧ Q v H2
def tDIn (ty td : TE) : TE := fun σ H Q => ty σ H fun y H1 => td σ H1 fun x H2 => ∃ a o, x = .ref a ∧ DGet H2 a y o ∧ Q (.bl o.isSome) H2
def tDNotIn (ty td : TE) : TE := fun σ H Q => ty σ H fun y H1 => td σ H1 fun x H2 => ∃ a o, x = .ref a ∧ DGet H2 a y o ∧ Q (.bl (!o.isSome)) H2
def sDPut (td ty tv : TE) : TS := fun D σ H => tv σ H fun v H1 => td σ H1 fun x H2 => ty σ H2 fun y H3 => ∃ a H4, x = .ref a ∧ DPut H3 a y v H4 ∧ D.nx σ H4

section
variable {X : Cx} {o i e value : Expr} {pos pos' tpos : Pos} {td ty tv : TE}
theorem pe_dget (hu : X.A.units + 1 < cLine) (ho : PE X o td) (hi : PE X i ty) (hs : NoSl i) : PE X (.Subscript o i pos) (tDGet td ty) := by
  intro pins s σ H Q I h
  refine subD_of PySem.F.slot_dict_getitem.lookup hs (thn (ho pins s σ H _ I h) fun u s1 ⟨x, H1, I1, rx, q1⟩ => thn (hi pins s1 σ H1 _ I1 q1) fun iv s2 ⟨y, H2, I2, ry, a, v, ex, g, q2⟩ => ?_)
  subst ex
  obtain rfl : u = Value.ref a := rx
  exact ⟨dict_typeIs I2 g, d_getItem hu I2 g ry fun w' s3 I3 rw' => ⟨v, H2, I3, rw', q2⟩⟩
theorem pc_din (hu : X.A.units + 1 < cLine) (hi : PE X i ty) (ho : PE X o td) : PC X .In i o (tDIn ty td) := by
  intro pins s σ H Q I h
  refine thn (hi pins s σ H _ I h) fun iv s1 ⟨y, H1, I1, ry, q1⟩ => thn (ho pins s1 σ H1 _ I1 q1) fun u s2 ⟨x, H2, I2, rx, a, ov, ex, g, q2⟩ => ?_
  subst ex
  obtain rfl : u = Value.ref a := rx
  exact d_in hu I2 g ry fun s3 I3 => ⟨.bl ov.isSome, H2, I3, rfl, q2⟩
theorem pc_dnotin (hu : X.A.units + 1 < cLine) (hi : PE X i ty) (ho : PE X o td) : PC X .NotIn i o (tDNotIn ty td) := by
  intro pins s σ H Q I h
  refine thn (hi pins s σ H _ I h) fun iv s1 ⟨y, H1, I1, ry, q1⟩ => thn (ho pins s1 σ H1 _ I1 q1) fun u s2 ⟨x, H2, I2, rx, a, ov, ex, g, q2⟩ => ?_
  subst ex
  obtain rfl : u = Value.ref a := rx
  exact d_notIn hu I2 g ry fun s3 I3 => ⟨.bl (!ov.isSome), H2, I3, rfl, q2⟩
theorem ps_dput (hu : X.A.units + 1 < cLine) (ho : PE X o td) (hi : PE X i ty) (hv : PE X value tv) (hs : swapsWith value (some (.Subscript o i pos')) pos.line X.env = pure false) :
    PS X (.Assign [.Subscript o i pos'] value pos) (sDPut td ty tv) := by
  intro pins s σ H D I h
  refine wpAny_Assign_Subscript (thn (hv pins s σ H _ I h) fun r s1 ⟨v, H1, I1, rv, q1⟩ => thn (ho pins s1 σ H1 _ I1 q1) fun u s2 ⟨x, H2, I2, rx, q2⟩ => thn (hi pins s2 σ H2 _ I2 q2) fun iv s3 ⟨y, H3, I3, ry, a, H4, ex, g, q3⟩ => ?_) hs
  subst ex
  obtain rfl : u = Value.ref a := rx
  exact d_setItem hu I3 g ry rv fun s4 I4 => ⟨σ, H4, I4, q3⟩
end


theorem dk_empty {P : Program} {w : World} {H : Hp} (h : Heap) (hb : sysModules < h.objs.size) : ObjOk P w H (h.push { cls := .type "dict", data := .dict #[] }) h.objs.size (.dK []) :=
  ⟨Nat.zero_le _, beq_eq_false_iff_ne.mpr (Ne.symm (Nat.ne_of_lt hb)), [], .nil, Heap.DictOf.new h⟩
theorem dt_empty {P : Program} {w : World} {H : Hp} (h : Heap) (hb : sysModules < h.objs.size) : ObjOk P w H (h.push { cls := .type "dict", data := .dict #[] }) h.objs.size (.dT []) :=
  ⟨Nat.zero_le _, beq_eq_false_iff_ne.mpr (Ne.symm (Nat.ne_of_lt hb)), [], .nil, _, #[], 0, Heap.get?_push_size _ rfl, ⟨rfl, rfl, rfl⟩, rfl, rfl, List.nodup_nil⟩
def tDNewK : TE := fun _ H Q => ∀ p, H p = none → Q (.ref p) (upd H p (.dK []))
def tDNewT : TE := fun _ H Q => ∀ p, H p = none → Q (.ref p) (upd H p (.dT []))
section
variable {X : Cx} {pos : Pos}
theorem pe_dnewK : PE X (.Dict [] [] pos) tDNewK := fun pins s σ H Q I h =>
  wpAny_Dict_empty ⟨.ref s.heap.objs.size, _, I.laid (a := s.heap.objs.size) (o := .dK []) (t' := s.toks) (fun _ _ q => Heap.get?_push_of_some _ q) (Nat.le_refl _) (dk_empty s.heap I.big), rfl, h _ (I.hok.fresh (Nat.le_refl _))⟩
theorem pe_dnewT : PE X (.Dict [] [] pos) tDNewT := fun pins s σ H Q I h =>
  wpAny_Dict_empty ⟨.ref s.heap.objs.size, _, I.laid (a := s.heap.objs.size) (o := .dT []) (t' := s.toks) (fun _ _ q => Heap.get?_push_of_some _ q) (Nat.le_refl _) (dt_empty s.heap I.big), rfl, h _ (I.hok.fresh (Nat.le_refl _))⟩
end






section
variable {X : Cx} {pins : List (Addr × Obj)} {σ : St} {H : Hp} {s : Shared} {a : Addr} {y d : V} {u r : Value} {o : Option V} {A : Around} {E : Value → Shared → Prop}
end

section
variable {X : Cx} {o e f : Expr} {apos cpos : Pos} {td ty tx : TE}
end

section
variable {X : Cx} {pins : List (Addr × Obj)} {σ : St} {H : Hp} {s : Shared} {a : Addr} {kvs : List (Key × V)} {A : Around} {E : Value → Shared → Prop}
end


section
variable {X : Cx} {pins : List (Addr × Obj)} {σ : St} {H : Hp} {s : Shared} {a : Addr} {y : V} {u : Value} {A : Around} {E : Value → Shared → Prop}
end
end L2

namespace Att
open PySem PySem.W PySem.Calls PyProof.Rows

theorem ints_of_wellAll {P : Params} {h : Heap} : ∀ (ns : List Int) (vs : List Value), WellAll P h vs (ns.map WData.int) → IntsAre vs ns := by
  intro ns
  induction ns with
  | nil =>
    intro vs w
    rw [List.map_nil] at w
    cases w
    exact .nil
  | cons n ns ih =>
    intro vs w
    rw [List.map_cons] at w
    cases w with
    | cons a b =>
      cases a
      exact .cons _ _ (ih _ b)

theorem script_of {l : OpenLaw} {n : Nat} (hn : l.most = some n) {P : Params} {h : Heap} {args : List WData} {vals : List Value}
    (hpre : l.row.toRowW.claim.pre args = true) (hwl : WellAll P h vals args) :
    ∃ a vs ns, vals = [Value.ref a] ∧ args = [WData.list (ns.map WData.int)] ∧ h.get? a = some { cls := .type "list", data := .seq vs.toArray } ∧ IntsAre vs ns ∧ ns.length ≤ n := by
  have hsh : WShape.hasAll [] args [.list .int] = true := (pre_splitW hpre).1
  have hc : l.pre.holds [] { args := args } = true := (pre_splitW hpre).2
  obtain ⟨d, r, rfl, h1, h2⟩ := hasAllW_cons hsh
  obtain rfl := hasAllW_nil h2
  obtain ⟨xs, rfl, h3⟩ := hasW_list h1
  obtain ⟨ns, rfl⟩ := items_int h3
  have hlen : ns.length ≤ n := by
    unfold OpenLaw.pre at hc
    have h4 : (WTm.not (.lt (.lit (.int (n : Int))) (.len (.arg 0)))).holds [] { args := [.list (ns.map .int)] } = true := by
      have h4 := (holds_andW hc).1
      rw [hn] at h4
      exact h4
    have h5 := condW_of h4 (w_not (w_lt w_lit (w_len_list (w_arg rfl))))
    rw [List.length_map] at h5
    refine Nat.le_of_not_lt fun q => ?_
    have q' : (n : Int) < ((ns.length : Nat) : Int) := by omega
    first
      | (rw [decide_eq_true q'] at h5; exact absurd h5 (by decide))
      | (simp at h5; omega)
  cases hwl with
  | cons w1 w2 =>
    cases w2
    cases w1 with
    | list ho hall => exact ⟨_, _, ns, rfl, rfl, ho, ints_of_wellAll ns _ hall, hlen⟩

theorem post_true (l : OpenLaw) (args : List WData) : l.row.toRowW.claim.post args (.bool true) args = true :=
  postW_of (r := l.row.toRowW) (X := (true == true))
    (show WShape.has [] (.bool true) .bool = true by first | rfl | decide | simp [WShape.has, WShape.arms, WShape.armsAll])
    (show (WTm.eq .res (.lit (.bool true))).value [] { args := args, res := some (.bool true), after := args } = some (.bool (true == true)) from w_eq_bool (w_res rfl) w_lit) rfl


theorem attach_call {l : OpenLaw} {n : Nat} {q : Program} {loose : List Str} {XP : (Str → Option Value) → Heap → Prop} {YP : World → Heap → Prop} {d : DefRec}
    (hn : l.most = some n) (hdf : d.params.defaults = [])
    (call : ∀ (w : World) (s₀ s₁ : Shared) (mg mb : Str → Option Value) (fa : Addr) (o : Obj) (pm cd doc : Value) (a : Addr) (vs : List Value) (ns : List Int),
      Ground q loose [] XP w s₀ mg mb s₁.heap → YP w s₁.heap →
      s₁.heap.get? fa = some o → o.data = .func (docDef d.name d.params d.body d.scope pm cd doc) → s₁.heap.CodeRec cd d.name → mg d.name = some (.ref fa) →
      s₁.heap.get? a = some { cls := .type "list", data := .seq vs.toArray } → IntsAre vs ns → ns.length ≤ n → s₁.gens = #[] →
      codeAny (model l.prog w) callerA (.call (.ref fa) ⟨[.ref a], []⟩) (fun r s' => r = .ok (.ret (.bool true)) ∧ OldK s₁.heap s'.heap ∧ s'.os = s₁.os ∧ AllBare s'.gens) s₁) :
    WalkO q loose XP YP l.row.toRowW d [] (fun f vs => PySem.call f vs) := by
  intro w s₀ s₁ mg mb G Y fa o pm cd doc dV kV ho hd hcd hD hmg hg args vals as hpre hlay hrd hwl hlo
  obtain rfl : dV = .none := Dflts.none hD hdf
  obtain rfl : kV = .none := Dflts.noKw hD
  obtain ⟨a, vs, ns, rfl, rfl, hobj, hints, hlen⟩ := script_of hn hpre hwl
  refine enter_call (codeAny_mono (call w s₀ s₁ mg mb fa o pm cd doc a vs ns G Y ho (fd_plain hd) hcd hmg hobj hints hlen hg) fun r s' hq => ?_)
  obtain ⟨rfl, h2, h3, h4⟩ := hq
  exact ⟨.inl ⟨.bool true, .bool true, [], rfl, fun _ => rfl, .bool true, post_true l _, fun _ => ⟨List.Pairwise.nil, fun _ hm => (nomatch hm)⟩⟩, h2, h3, h4⟩


section
variable {prog : Program} {w : World} {A : Around} {E : Value → Shared → Prop} {s : Shared} {K : Frag}





def ledger (h : Heap) (L d : Addr) : List (Addr × Obj) := (List.range h.objs.size).filterMap fun a => if a = L ∨ a = d then none else (h.get? a).map fun o => (a, o)

end
end Att

namespace L2
open PySem PySem.Spec PyProof.Rows

theorem vals_ints : ∀ {vs : List Value} {ns : List Int}, IntsAre vs ns → Vals (ns.map V.int) vs
  | _, _, .nil => .nil
  | _, _, .cons n t h => .cons ⟨t, rfl⟩ (vals_ints h)

def Only (H : Hp) : Prop := ∀ b, H b = none ∨ ∃ o xs, H b = some (.frz o (.lst xs))

theorem law_call {P : Program} {w : World} {K : PySem.W.Frag} {mg mb : Str → Option Value} {CX : CXT} {k : Nat} {fa a : Addr} {fd : FuncData} {x : Str} {sp : Sp} {s₁ : Shared} {vs : List Value} {ns : List Int}
    (KX : K.In s₁.heap) (hns : s₁.heap.Ns mainGlobals mg) (hb : s₁.heap.Ns builtinsNs mb) (hbb : ∀ x : Str, x ≠ "__name__" → mb x = bootBuiltins x) (hlim : s₁.heap.NoLimit) (hg : s₁.gens = #[])
    (ha : s₁.heap.get? a = some { cls := .type "list", data := .seq vs.toArray }) (hi : IntsAre vs ns) (hl : ns.length ≤ sizeLine) (hr : Room k callerA)
    (F : ∀ base : Heap, K.In base → base.Ns mainGlobals mg → FnOk P w K mg base CX k fa fd [x] sp) (hbind : ∀ (s : Shared) (u : Value), BindsTo s fd ⟨[u], []⟩ [(x, u)])
    (hsp : ∀ H : Hp, Only H → SqL K H a (ns.map V.int) → sp [.ref a] H (fun v _ => v = .bl true) fun _ _ _ => False)
    (hCX : ∀ H e s', CX [] H s₁ (fun _ _ _ => False) e s' → False) :
    codeAny (model P w) callerA (.call (.ref fa) ⟨[.ref a], []⟩) (fun r s' => r = .ok (.ret (.bool true)) ∧ OldK s₁.heap s'.heap ∧ s'.os = s₁.os ∧ AllBare s'.gens) s₁ := by
  have rv := vals_ints hi
  have lenV := hi.length
  -- from an abstract heap in which nothing but the script may be tracked
  have core : ∀ H : Hp, Only H → SqL K H a (ns.map V.int) → HOk P w H s₁.heap → (∀ b, H b ≠ none → b = a) → (H a ≠ none → K.lookup a = none) →
      codeAny (model P w) callerA (.call (.ref fa) ⟨[.ref a], []⟩) (fun r s' => r = .ok (.ret (.bool true)) ∧ OldK s₁.heap s'.heap ∧ s'.os = s₁.os ∧ AllBare s'.gens) s₁ := by
    intro H hO hS hok hA hK
    have base_of : ∀ {b : Addr} {o : Obj}, s₁.heap.get? b = some o → H b = none → (hidT s₁.heap H).get? b = some o := fun e n => hidT_get e n
    have noA : ∀ {b : Addr} {o : Obj} {es : Array DictEntry} {ep : Nat}, s₁.heap.get? b = some o → o.data = .dict es ep → H b = none := fun {b o es ep} e d => by
      cases q : H b with
      | none => rfl
      | some u =>
        have e' : b = a := hA b (by rw [q]; simp)
        subst e'
        rw [ha] at e; cases e
        have d' : Data.seq vs.toArray _ = Data.dict es ep := d
        cases d'
    have nsK : ∀ {b : Addr} {m : Str → Option Value}, s₁.heap.Ns b m → (hidT s₁.heap H).Ns b m := fun {b m} ⟨o, es, ep, e, d, r⟩ => ⟨o, es, ep, base_of e (noA e d), d, r⟩
    have hKb : K.In (hidT s₁.heap H) := fun b o e => base_of (KX b o e) (by
      cases q : H b with
      | none => rfl
      | some u =>
        have e' : b = a := hA b (by rw [q]; simp)
        subst e'
        rw [hK (by rw [q]; simp)] at e; cases e)
    have hM : Mod K mg (hidT s₁.heap H) := ⟨hKb, nsK hns, ⟨mb, nsK hb, hbb⟩, let ⟨mc, h1, h2⟩ := hlim; ⟨mc, nsK h1, h2⟩⟩
    have e0 : Env0 P w K mg (hidT s₁.heap H) callerA [] s₁ H := ⟨rfl, hM, fun b o e => of_hidT e, Nat.le_of_eq (hidT_size _ _), trivial, fun b hb => absurd (show b ∈ ([] : List Addr) from hb) (by simp), hok, .of_eq hg⟩
    refine codeAny_mono ((F _ hKb (nsK hns)).run callerA [] s₁ H ⟨[.ref a], []⟩ [.ref a] [.ref a] _ _ hr e0 (hbind s₁ (.ref a)) (.cons rfl .nil) (hsp H hO hS)) fun r s' h => ?_
    cases r with
    | error e => exact (hCX H e s' h).elim
    | ok fl =>
      cases fl with
      | next => exact False.elim h
      | brk => exact False.elim h
      | cont => exact False.elim h
      | ret u =>
        obtain ⟨v, H', os, bare, un, hok', r', q⟩ := h
        have q' : v = .bl true := q
        subst q'
        obtain rfl : u = Value.bool true := r'
        refine ⟨rfl, OldK.of_keep fun b o e => ?_, os, bare⟩
        cases q : H b with
        | none => exact un.keep b o e q (by intro z; exact absurd (show b ∈ ([] : List Addr) from z) (by simp)) (by simp)
        | some u =>
          rcases hO b with z | ⟨ob, xs, z⟩
          · rw [q] at z; cases z
          · have z2 := un.frzs b ob _ z
            obtain ⟨e1, _⟩ := hok b _ z
            obtain ⟨e2, _⟩ := hok' b _ z2
            rw [e] at e1; cases e1
            exact e2
  cases hk : K.lookup a with
  | some o =>
    -- the script is one of the module's own objects
    have e := KX a o hk
    rw [ha] at e
    cases e
    refine core (fun _ => none) (fun _ => .inl rfl) (.inr ⟨_, vs.toArray, _, hk, rfl, rfl, rfl, by rw [List.size_toArray, lenV]; exact hl, by simpa using rv⟩) (fun b u z => by have z' : (none : Option HO) = some u := z; cases z') (fun b z => absurd rfl z) fun z => absurd rfl z
  | none =>
    refine core (fun b => if b = a then some (.frz { cls := .type "list", data := .seq vs.toArray } (.lst (ns.map V.int))) else none) (fun b => ?_) (.inl (.inr ⟨{ cls := .type "list", data := .seq vs.toArray }, if_pos rfl⟩)) (fun b u z => ?_) (fun b z => ?_) fun _ => hk
    · by_cases hb : b = a
      · exact .inr ⟨_, _, if_pos hb⟩
      · exact .inl (if_neg hb)
    · by_cases hb : b = a
      · have z' := (if_pos hb).symm.trans z
        cases z'
        subst hb
        exact ⟨ha, by rw [List.length_map]; exact hl, vs, _, rv, ha⟩
      · have z' := (if_neg hb).symm.trans z
        cases z'
    · by_cases hb : b = a
      · exact hb
      · exact absurd (if_neg hb) z
end L2

namespace L2
open PySem PySem.Spec PyProof.Rows


theorem walk_of {l : PySem.W.OpenLaw} {n k : Nat} {q : Program} {loose : List Str} {XP : (Str → Option Value) → Heap → Prop} {YP : World → Heap → Prop} {d : DefRec} {K : Params → PySem.W.Frag} {CX : World → CXT} {sp : World → Sp} {x : Str}
    (hn : l.most = some n) (hn2 : n ≤ sizeLine) (hdf : d.params.defaults = []) (hr : Room k callerA)
    (hY : ∀ (w : World) (h : Heap), YP w h → (K w.params).In h)
    (F : ∀ (w : World) (mg : Str → Option Value) (fa : Addr) (h : Heap), (K w.params).In h → h.Ns mainGlobals mg → mg d.name = some (.ref fa) →
      ∃ fd : FuncData, (∀ (s : Shared) (u : Value), BindsTo s fd ⟨[u], []⟩ [(x, u)]) ∧
        ∀ base : Heap, (K w.params).In base → base.Ns mainGlobals mg → FnOk l.prog w (K w.params) mg base (CX w) k fa fd [x] (sp w))
    (hsp : ∀ (w : World) (H : Hp) (a : Addr) (ns : List Int), ns.length ≤ n → Only H → SqL (K w.params) H a (ns.map V.int) → sp w [.ref a] H (fun v _ => v = .bl true) fun _ _ _ => False)
    (hCX : ∀ (w : World) (H : Hp) (s : Shared) (e : Value) (s' : Shared), CX w [] H s (fun _ _ _ => False) e s' → False) :
    PySem.W.WalkO q loose XP YP l.row.toRowW d [] (fun f vs => PySem.call f vs) := by
  refine Att.attach_call hn hdf fun w s₀ s₁ mg mb fa o pm cd doc a vs ns G Y ho hd hcd hmg hobj hints hlen hg => ?_
  have KX := hY w _ Y
  obtain ⟨fd, hb, hF⟩ := F w mg fa _ KX G.T.g hmg
  exact law_call KX G.T.g G.T.b G.T.builtins G.T.nolimit hg hobj hints (Nat.le_trans hlen hn2) hr hF hb (fun H hO hS => hsp w H a ns hlen hO hS) fun H e s' => hCX w H s₁ e s'
end L2


namespace L2
open PySem PySem.Spec PyProof.Rows

def inClass (s : Stmt) (j : Nat) : Stmt := match s with
  | .ClassDef _ _ _ body _ _ _ _ _ _ _ => body.getD j (.Pass ⟨0, 0, 0, 0⟩)
  | _ => .Pass ⟨0, 0, 0, 0⟩
def defArgs (s : Stmt) : Arguments := match s with
  | .FunctionDef _ a _ _ _ _ _ _ _ _ => a
  | _ => { posonlyargs := [], args := [], vararg := none, kwonlyargs := [], kw_defaults := [], kwarg := none, defaults := [] }
def defBody (s : Stmt) : List Stmt := match s with
  | .FunctionDef _ _ b _ _ _ _ _ _ _ => b
  | _ => []
def defScope (s : Stmt) : Scope := match s with
  | .FunctionDef _ _ _ _ _ _ sc _ _ _ => sc
  | _ => { kind := .function, names := [], isGenerator := false, isCoroutine := false }

abbrev CX0 : CXT := fun _ _ _ _ _ _ => False
abbrev E0 : XK := fun _ _ _ => False
theorem pass0 {X : Cx} : Passes CX0 X E0 := fun _ _ _ _ _ _ _ h => h.elim

structure Fun (K : PySem.W.Frag) (x qual : Str) (st : Stmt) (f : Addr) (fd : FuncData) : Prop where
  ex : ∃ (oc : Value) (od : Option Addr) (kV doc pm : Value) (an : Option Addr) (cdv ct : Value) (osl : Array (Option Value)),
    fd = PySem.W.fnOf x qual (defArgs st) (defBody st) (defScope st) .none kV doc pm an cdv ct ∧ K.lookup f = some ⟨oc, od, .func fd, osl⟩ ∧ PySem.W.codeIn K cdv qual = true
  kp : PySem.W.keepIn K (.ref f) = true
section
variable {P : Program} {w : World} {K : PySem.W.Frag} {mg : Str → Option Value} {base : Heap}
theorem Fun.ok {x qual : Str} {st : Stmt} {f : Addr} {fd : FuncData} {N ps : List Str} {k : Nat} {sp : Sp} (F : Fun K x qual st f fd) (S : FnScope N ps (defScope st)) (len : ∀ vs H Q E, sp vs H Q E → vs.length = ps.length)
    (hbody : ∀ (cdv : Value) (A : Around) (outer : List Env) (s : Shared) (H : Hp) (vs : List V) (Q : VK) (E : XK), Room k (A.deeper (envOfC qual (defScope st) s.heap.objs.size f cdv)) → sp vs H Q E →
      ∃ t, PSs (cxOf CX0 P w K mg base N qual (defScope st) f cdv A outer s H E).nox (defBody st) t ∧ t { nx := fun _ H' => Q .non H', rt := Q } (start N vs) H) : FnOk P w K mg base CX0 (k + 1) f fd ps sp := by
  obtain ⟨oc, od, kV, doc, pm, an, cdv, ct, osl, rfl, lk, hcd⟩ := F.ex
  refine fn_of lk hcd S len fun A outer s H vs Q E hr hsp => ?_
  obtain ⟨t, h, q⟩ := hbody cdv A outer s H vs Q E hr hsp
  exact ⟨t, h.nox, q⟩
theorem Fun.binds {x qual : Str} {st : Stmt} {f : Addr} {fd : FuncData} {ps : List Str} (F : Fun K x qual st f fd)
    (h : ∀ (kV doc pm : Value) (an : Option Addr) (cdv ct : Value) (us : List Value), us.length = ps.length → bindArgs (PySem.W.fnOf x qual (defArgs st) (defBody st) (defScope st) .none kV doc pm an cdv ct) ⟨us, []⟩ = pure (ps.zip us)) : Binds K fd ps [] := by
  obtain ⟨oc, od, kV, doc, pm, an, cdv, ct, osl, rfl, lk, hcd⟩ := F.ex
  exact .all (h kV doc pm an cdv ct)
theorem fun_mk {x qual : Str} {st : Stmt} {f : Addr} {oc : Value} {od an : Option Addr} {osl : Array (Option Value)} {kV doc pm cdv ct : Value} (l : K.lookup f = some ⟨oc, od, .func (PySem.W.fnOf x qual (defArgs st) (defBody st) (defScope st) .none kV doc pm an cdv ct), osl⟩)
    (c : PySem.W.codeIn K cdv qual = true) (k : PySem.W.keepIn K (.ref f) = true) : Fun K x qual st f (PySem.W.fnOf x qual (defArgs st) (defBody st) (defScope st) .none kV doc pm an cdv ct) := ⟨⟨oc, od, kV, doc, pm, an, cdv, ct, osl, rfl, l, c⟩, k⟩
end
theorem hu_of {A : Around} {k : Nat} (hr : Room k A) : A.units + 1 < cLine := Nat.lt_of_le_of_lt (Nat.add_le_add_left (by decide : 1 ≤ 64) _) hr.units
theorem small1000 {n : Nat} (h : n ≤ 1000) : n < sizeLine := Nat.lt_of_le_of_lt h (by decide)

section
variable {X : Cx}
theorem pv (i : Nat) {x : Str} {pos : Pos} (hN : X.N[i]? = some x := by rfl) (hv : Vis X.env.scope x := by first | exact Or.inl rfl | exact Or.inr (Or.inl rfl) | exact Or.inr (Or.inr rfl)) (hd : (x == ("__debug__" : Str)) = false := by decide)
    (hcd : (x == ("__classdict__" : Str)) = false := by decide) : PE X (.Name x pos) (tVar i) := pe_var hN hv hd hcd
end

theorem iteF {A B : Prop} (h : B) : if false = true then A else B := by
  rw [if_neg Bool.false_ne_true]
  exact h
theorem iteT {A B : Prop} (h : A) : if true = true then A else B := by
  rw [if_pos rfl]
  exact h
theorem ite2 {c A B : Prop} [Decidable c] (h1 : c → A) (h2 : ¬ c → B) : if c then A else B := by
  by_cases h : c
  · rw [if_pos h]
    exact h1 h
  · rw [if_neg h]
    exact h2 h
theorem iteNS {c A B : Prop} [Decidable c] (hc : c) (h : B) : if (!decide c) = true then A else B := by
  rw [decide_eq_true hc]
  exact iteF h

def Same (H H' : Hp) : Prop := ∀ b o, H b = some o → H' b = some o
theorem Same.refl (H : Hp) : Same H H := fun _ _ h => h
theorem Same.trans {H H1 H2 : Hp} (a : Same H H1) (b : Same H1 H2) : Same H H2 := fun c o h => b c o (a c o h)
theorem Same.free {H H' : Hp} (e : Same H H') {l : Addr} (h : H' l = Option.none) : H l = Option.none := by
  cases q : H l with
  | none => rfl
  | some o =>
    rw [e l o q] at h
    cases h
theorem Same.seq {K : PySem.W.Frag} {H H' : Hp} {a : Addr} {xs : List V} (e : Same H H') (h : SqL K H a xs) : SqL K H' a xs := by
  rcases h with (h | ⟨o, h⟩) | h
  · exact .inl (.inl (e _ _ h))
  · exact .inl (.inr ⟨o, e _ _ h⟩)
  · exact .inr h

section
variable {κ : Type} [DecidableEq κ]
theorem valV_not {kvs : List (κ × V)} {k : κ} (h : valV kvs k = none) : ¬ k ∈ kvs.map (·.1) := by
  intro m
  obtain ⟨p, hp, e⟩ := List.mem_map.mp m
  have q : (kvs.any fun kv => decide (kv.1 = k)) = true := List.any_eq_true.mpr ⟨p, hp, decide_eq_true e⟩
  rw [valV_any, h] at q
  exact absurd q (by simp)
theorem valV_in {kvs : List (κ × V)} {k : κ} {v : V} (h : valV kvs k = some v) : k ∈ kvs.map (·.1) := by
  have q : (kvs.any fun kv => decide (kv.1 = k)) = true := by
    rw [valV_any, h]
    all_goals rfl
  obtain ⟨p, hp, e⟩ := List.any_eq_true.mp q
  exact List.mem_map.mpr ⟨p, hp, of_decide_eq_true e⟩
theorem nd_snoc : ∀ {l : List κ} {k : κ}, l.Nodup → ¬ k ∈ l → (l ++ [k]).Nodup
  | [], k, _, _ => by simp
  | a :: r, k, h, hk => by
    obtain ⟨h1, h2⟩ := List.nodup_cons.mp h
    show (a :: (r ++ [k])).Nodup
    refine List.nodup_cons.mpr ⟨fun m => ?_, nd_snoc h2 fun m => hk (List.mem_cons.mpr (Or.inr m))⟩
    rcases List.mem_append.mp m with q | q
    · exact h1 q
    · exact hk (List.mem_cons.mpr (Or.inl (List.mem_singleton.mp q).symm))
theorem nd_putK {kvs : List (κ × V)} {k : κ} (v : V) (hn : (kvs.map (·.1)).Nodup) (h : valV kvs k = none) : ((putK kvs k v).map (·.1)).Nodup := by
  rw [putK_new v h, List.map_append]
  exact nd_snoc hn (valV_not h)
end
end L2



namespace Sh
def scan {α : Type} (f : α → Bool) : Bool → Bool → List α → Bool
  | _, _, [] => true
  | b, o, x :: r => if f x then (if o then false else scan f true o r) else if b then scan f b true r else scan f b o r
def rangeI (n : Nat) : List Int := (List.range n).map fun (i : Nat) => (i : Int)
theorem rangeI_len (n : Nat) : (rangeI n).length = n := by simp [rangeI]
theorem mem_rangeI {n : Nat} {z : Int} : z ∈ rangeI n ↔ 0 ≤ z ∧ z < n := by
  unfold rangeI
  rw [List.mem_map]
  constructor
  · rintro ⟨i, h, rfl⟩
    have := List.mem_range.mp h
    omega
  · intro h
    exact ⟨z.toNat, List.mem_range.mpr (by omega), by omega⟩
theorem sorted_unique : ∀ {a b : List Int}, a.Perm b → a.Pairwise (· ≤ ·) → b.Pairwise (· ≤ ·) → a = b
  | [], b, p, _, _ => by
    have := p.length_eq
    cases b with
    | nil => rfl
    | cons _ _ => simp at this
  | x :: r, [], p, _, _ => by
    have := p.length_eq
    simp at this
  | x :: r, y :: t, p, ha, hb => by
    have h1 : x = y := by
      have hy : y ∈ x :: r := p.mem_iff.mpr List.mem_cons_self
      have hx : x ∈ y :: t := p.mem_iff.mp List.mem_cons_self
      have q1 : x ≤ y := by
        rcases List.mem_cons.mp hy with e | hy
        · omega
        · exact (List.pairwise_cons.mp ha).1 y hy
      have q2 : y ≤ x := by
        rcases List.mem_cons.mp hx with e | hx
        · omega
        · exact (List.pairwise_cons.mp hb).1 x hx
      omega
    subst h1
    rw [sorted_unique (List.perm_cons x |>.mp p) (List.pairwise_cons.mp ha).2 (List.pairwise_cons.mp hb).2]
theorem rangeI_sorted (n : Nat) : (rangeI n).Pairwise (· ≤ ·) := by
  unfold rangeI
  rw [List.pairwise_map]
  exact List.pairwise_lt_range.imp fun h => by omega
theorem rangeI_succ (n : Nat) : rangeI (n + 1) = rangeI n ++ [(n : Int)] := by
  unfold rangeI
  rw [List.range_succ, List.map_append]
  rfl
def Good (many : Nat) (ns : List Int) : Prop := (∀ b ∈ ns, 0 ≤ b ∧ b < (many : Int)) ∧ ns.length ≤ 9
theorem erase_perm {l : List Int} {j : Nat} (hj : j < l.length) : ([l[j]] ++ l.eraseIdx j).Perm l := by
  induction l generalizing j with
  | nil => simp at hj
  | cons x r ih =>
    cases j with
    | zero => simp
    | succ j =>
      have hj' : j < r.length := by simpa using hj
      have := ih hj'
      simp only [List.getElem_cons_succ, List.eraseIdx_cons_succ, List.singleton_append] at this ⊢
      exact (List.Perm.swap x r[j] _).trans (this.cons x)
def tog (os w : List Int) : Bool := scan (fun b => decide (b ∈ w)) false false os
theorem map_erase {α β : Type} (f : α → β) : ∀ (l : List α) (j : Nat), (l.map f).eraseIdx j = (l.eraseIdx j).map f
  | [], _ => rfl
  | _ :: _, 0 => rfl
  | x :: r, j + 1 => by
    have ih := map_erase f r j
    simp only [List.map_cons, List.eraseIdx_cons_succ, ih]
end Sh
namespace Sh
def split (ws : List (List Int)) (a b c : Int) : Bool := ws.any fun w => decide (a ∈ w) && (decide (c ∈ w) && !decide (b ∈ w))
def onw (ws : List (List Int)) (p q : Int × Int) : Bool := if p.2 = q.1 then (if p.1 = q.2 then true else split ws p.1 p.2 q.2) else false
def bars (ws : List (List Int)) (p q : Int × Int) : Bool := onw ws p q || onw ws q p
def lbar (ws : List (List Int)) (p q : Int × Int) : Bool := if p = (q.2, q.1) then true else if p.2 = q.1 ∧ p.1 ≠ q.2 then split ws p.1 p.2 q.2 else (if p.1 = q.2 then (if p.2 ≠ q.1 then split ws q.1 p.1 p.2 else false) else false)
theorem bars_comm (ws : List (List Int)) (p q : Int × Int) : bars ws p q = bars ws q p := by
  unfold bars
  exact Bool.or_comm _ _
theorem lbar_eq (ws : List (List Int)) {p q : Int × Int} (hp : p.1 ≠ p.2) (hq : q.1 ≠ q.2) : lbar ws p q = bars ws p q := by
  obtain ⟨a, b⟩ := p
  obtain ⟨c, d⟩ := q
  unfold lbar bars onw
  simp only at hp hq ⊢
  by_cases h1 : b = c
  · subst h1
    by_cases h2 : a = d
    · subst h2; simp
    · have h2' : ¬ d = a := fun e => h2 e.symm
      simp [h2, h2']
  · have h1' : ¬ c = b := fun e => h1 e.symm
    by_cases h2 : a = d
    · subst h2; simp [h1, h1']
    · have h2' : ¬ d = a := fun e => h2 e.symm
      simp [h1, h2, h2']
structure Turn (many : Nat) (p : Int × Int) : Prop where
  a0 : 0 ≤ p.1
  a1 : p.1 < many
  b0 : 0 ≤ p.2
  b1 : p.2 < many
  ne : p.1 ≠ p.2
end Sh
namespace L2
open PySem PySem.Spec PyProof.Rows

def blkCx (X : Cx) (sc : Scope) (N' : List Str) (cl : List (Str × Addr)) (s : Shared) (H : Hp) (fp : List Addr) : Cx :=
  { X with N := N', s₀ := s, H₀ := H, env := compEnvC sc cl s.heap.objs.size X.env, outer := X.stack, ex := fp, fn := fun _ => false, pn := [], xe := fun _ _ => False }
structure BlkSc (N : List Str) (osc : Scope) (own : List Str) (cap : List (Str × Nat)) (sc : Scope) : Prop where
  kind : sc.kind = .function
  nocell : ∀ y ∈ sc.names, y.2 ≠ .cell
  names : ∀ y ∈ sc.names, y.2 = .local → sc.names.lookup y.1 = some .local
  free : ∀ y ∈ sc.names, y.2 = .free → osc.names.lookup y.1 = some .cell ∨ osc.names.lookup y.1 = some .free
  cap : ∀ p ∈ cap, N[p.2]? = some p.1 ∧ sc.names.lookup p.1 = some .free
def capSt (own : List Str) (cap : List (Str × Nat)) (σ : St) : St := own.map (fun _ => none) ++ cap.map fun p => (σ[p.2]?).join

theorem clo_go (env : Env) : ∀ (l : List (Str × NameKind)) (acc : List (Str × Addr)), (∀ y ∈ l, y.2 = .free → ∃ c, env.cells.lookup y.1 = some c) →
    (∀ x c, acc.lookup x = some c → env.cells.lookup x = some c) →
    ∃ cl, (forIn l acc (fun (p : Str × NameKind) r => if (p.2 == NameKind.free) = true then (cellOf env p.1 >>= fun a => pure (ForInStep.yield ((p.1, a) :: r))) else pure (ForInStep.yield r)) : Sem (List (Str × Addr))) = pure cl ∧
      (∀ x c, cl.lookup x = some c → env.cells.lookup x = some c) ∧ (∀ x, (acc.lookup x).isSome = true → (cl.lookup x).isSome = true) ∧ ∀ y ∈ l, y.2 = .free → (cl.lookup y.1).isSome = true := by
  intro l
  induction l with
  | nil => intro acc _ ha; exact ⟨acc, rfl, ha, fun _ h => h, fun _ h => nomatch h⟩
  | cons y r ih =>
    intro acc hl ha
    obtain ⟨n, k⟩ := y
    by_cases hk : k = .free
    · subst hk
      obtain ⟨c, hc⟩ := hl (n, .free) List.mem_cons_self rfl
      have hc : env.cells.lookup n = some c := hc
      obtain ⟨cl, e, h1, h2, h3⟩ := ih ((n, c) :: acc) (fun y hy => hl y (List.mem_cons_of_mem _ hy)) (fun x d hx => by
        rw [List.lookup_cons] at hx
        by_cases hxn : (x == n) = true
        · rw [hxn] at hx; cases hx
          have : x = n := by simpa using hxn
          rw [this]; exact hc
        · rw [Bool.not_eq_true] at hxn
          rw [hxn] at hx; exact ha x d hx)
      have e0 : cellOf env n = pure c := by unfold cellOf; rw [hc]
      refine ⟨cl, ?_, h1, fun x hx => h2 x ?_, fun z hz hzf => ?_⟩
      · rw [List.forIn_cons]
        simp only [beq_self_eq_true, if_true, e0]
        exact e
      · rw [List.lookup_cons]
        by_cases hxn : (x == n) = true
        · rw [hxn]; rfl
        · rw [Bool.not_eq_true] at hxn; rw [hxn]; exact hx
      · rcases List.mem_cons.mp hz with rfl | hz
        · exact h2 n (by rw [List.lookup_cons]; simp)
        · exact h3 z hz hzf
    · obtain ⟨cl, e, h1, h2, h3⟩ := ih acc (fun y hy => hl y (List.mem_cons_of_mem _ hy)) ha
      have hb : (k == NameKind.free) = false := by simpa using hk
      refine ⟨cl, ?_, h1, h2, fun z hz hzf => ?_⟩
      · rw [List.forIn_cons]
        simp only [hb, Bool.false_eq_true, if_false]
        exact e
      · rcases List.mem_cons.mp hz with rfl | hz
        · exact absurd hzf hk
        · exact h3 z hz hzf
theorem clo_of {env : Env} {sc : Scope} (h : ∀ y ∈ sc.names, y.2 = .free → ∃ c, env.cells.lookup y.1 = some c) :
    ∃ cl, closureFor sc env = pure cl ∧ (∀ x c, cl.lookup x = some c → env.cells.lookup x = some c) ∧ ∀ y ∈ sc.names, y.2 = .free → ∃ c, cl.lookup y.1 = some c := by
  obtain ⟨cl, e, h1, _, h3⟩ := clo_go env sc.names [] h (fun _ _ q => nomatch q)
  refine ⟨cl, ?_, h1, fun y hy hf => Option.isSome_iff_exists.mp (h3 y hy hf)⟩
  have e2 := congrArg (fun m : Sem (List (Str × Addr)) => m >>= fun cs => pure cs) e
  exact e2

theorem look_relabel {env : Env} : ∀ {names : List (Str × NameKind)} {x : Str} {k : NameKind},
    (names.map fun (n, k) => if (k == NameKind.free && env.scope.kind == .function && env.kindOf n == some .cell) then (n, NameKind.cell) else (n, k)).lookup x = some k →
    ∃ k0, names.lookup x = some k0 ∧ (k0 = k ∨ (k0 = .free ∧ k = .cell))
  | [], _, _, h => by simp at h
  | (n, k0) :: r, x, k, h => by
    have ih := @look_relabel env r x k
    rw [List.map_cons] at h
    rw [List.lookup_cons]
    by_cases hc : (k0 == NameKind.free && env.scope.kind == .function && env.kindOf n == some .cell) = true
    · have hf : k0 = .free := by
        rw [Bool.and_eq_true, Bool.and_eq_true] at hc
        simpa using hc.1.1
      have h' : List.lookup x ((n, NameKind.cell) :: r.map fun (n, k) => if (k == NameKind.free && env.scope.kind == .function && env.kindOf n == some .cell) then (n, NameKind.cell) else (n, k)) = some k := by
        simpa only [hc, if_true] using h
      rw [List.lookup_cons] at h'
      cases hx : x == n with
      | true => rw [hx] at h'; cases h'; exact ⟨k0, rfl, .inr ⟨hf, rfl⟩⟩
      | false => rw [hx] at h'; exact ih h'
    · have h' : List.lookup x ((n, k0) :: r.map fun (n, k) => if (k == NameKind.free && env.scope.kind == .function && env.kindOf n == some .cell) then (n, NameKind.cell) else (n, k)) = some k := by
        simpa only [hc, Bool.false_eq_true, if_false] using h
      rw [List.lookup_cons] at h'
      cases hx : x == n with
      | true => rw [hx] at h'; cases h'; exact ⟨k0, rfl, .inl rfl⟩
      | false => rw [hx] at h'; exact ih h'
theorem look_relabel_free {env : Env} {names : List (Str × NameKind)} {x : Str} (h : names.lookup x = some .free) :
    (names.map fun (n, k) => if (k == NameKind.free && env.scope.kind == .function && env.kindOf n == some .cell) then (n, NameKind.cell) else (n, k)).lookup x = some .cell ∨
    (names.map fun (n, k) => if (k == NameKind.free && env.scope.kind == .function && env.kindOf n == some .cell) then (n, NameKind.cell) else (n, k)).lookup x = some .free := by
  induction names with
  | nil => simp at h
  | cons y r ih =>
    obtain ⟨n, k0⟩ := y
    rw [List.lookup_cons] at h
    rw [List.map_cons]
    cases hx : x == n with
    | true =>
      rw [hx] at h; cases h
      by_cases hc : (NameKind.free == NameKind.free && env.scope.kind == .function && env.kindOf n == some .cell) = true
      · refine .inl ?_
        simp only [hc, if_true]
        rw [List.lookup_cons, hx]
      · refine .inr ?_
        simp only [hc, Bool.false_eq_true, if_false]
        rw [List.lookup_cons, hx]
    | false =>
      rw [hx] at h
      by_cases hc : (k0 == NameKind.free && env.scope.kind == .function && env.kindOf n == some .cell) = true
      · simp only [hc, if_true]
        rw [List.lookup_cons, hx]
        exact ih h
      · simp only [hc, Bool.false_eq_true, if_false]
        rw [List.lookup_cons, hx]
        exact ih h
theorem mem_of_look {names : List (Str × NameKind)} {x : Str} {k : NameKind} (h : names.lookup x = some k) : (x, k) ∈ names := PySem.mem_of_lookup h

section
variable {X : Cx} {pins : List (Addr × Obj)} {σ : St} {H : Hp} {s : Shared}

theorem blk_inv {own : List Str} {cap : List (Str × Nat)} {sc : Scope} {cl : List (Str × Addr)} {fp : List Addr} {h' : Heap} {tk : Nat} (I : Inv X pins σ H s) (hf : ∀ b ∈ fp, FpOk X pins H b) (hfo : ∀ b ∈ fp, ∃ o, s.heap.get? b = some o)
    (S : BlkSc X.N X.env.scope own cap sc) (h1 : ∀ x c, cl.lookup x = some c → X.env.cells.lookup x = some c) (h2 : ∀ y ∈ sc.names, y.2 = .free → ∃ c, cl.lookup y.1 = some c)
    (hn : ∃ m, h'.Ns s.heap.objs.size m) (hk : ∀ b o, s.heap.get? b = some o → h'.get? b = some o) :
    Inv (blkCx X sc (own ++ cap.map (·.1)) cl s H fp) [] (capSt own cap σ) H { s with heap := h', toks := tk } := by
  have hlt : ∀ b ∈ fp, b < s.heap.objs.size := fun b hb => let ⟨o, e⟩ := hfo b hb; Heap.lt_size e
  refine ⟨⟨I.mod, S.kind, I.ok.glob, I.ok.blt, Nat.le_refl _, fun x y c e1 e2 => I.ok.inj x y c (h1 x c e1) (h1 y c e2), fun x hx => ?_, fun x c z => absurd z Bool.false_ne_true, I.ok.hd, I.ok.frames, .inl rfl, fun b hb => ⟨Nat.ne_of_lt (hlt b hb), fun x c e => (hf b hb).2.2.2.2.1 x c (h1 x c e)⟩,
      I.bs, Nat.le_trans I.ok.bsz I.sz, fun b o e hb => ?_, fun b hb hz => ?_, I.stack, I.stkFree⟩,
    rfl, I.bare, Un.kept hk, ?_, fun x c e => ?_, I.hok.fresh (Nat.le_refl _), fun x c e => I.freeC x c (h1 x c e), fun p hp => absurd (show p ∈ ([] : List (Addr × Obj)) from hp) (by simp), I.hok.kept hk, ?_⟩
  · have hx' : (relabel sc X.env).names.lookup x = some .cell ∨ (relabel sc X.env).names.lookup x = some .free := hx
    have : (x, NameKind.free) ∈ sc.names := by
      rcases hx' with q | q
      · obtain ⟨k0, a, b | ⟨b, _⟩⟩ := look_relabel q
        · subst b; exact absurd rfl (S.nocell _ (mem_of_look a))
        · subst b; exact mem_of_look a
      · obtain ⟨k0, a, b | ⟨_, b⟩⟩ := look_relabel q
        · subst b; exact mem_of_look a
        · cases b
    exact h2 _ this rfl
  · rcases (hf b hb).2.2.2.1 with z | z
    · exact I.ok.noex b o e z
    · exact absurd (Nat.lt_of_lt_of_le (Heap.lt_size e) (Nat.le_trans I.ok.bsz z)) (Nat.lt_irrefl _)
  · rcases List.mem_cons.mp (I.stkSub b hz) with z | z
    · exact (hf b hb).2.1 z
    · exact (hf b hb).2.2.1 z
  · obtain ⟨m', hm'⟩ := hn
    refine ⟨m', hm', fun i x v e1 e2 _ => ?_⟩
    have e1 : (own ++ cap.map (·.1))[i]? = some x := e1
    have e2 : (own.map (fun _ => (none : Option V)) ++ cap.map fun p => (σ[p.2]?).join)[i]? = some (some v) := e2
    by_cases hi : i < own.length
    · rw [List.getElem?_append_left (by simpa using hi), List.getElem?_map] at e2
      cases q : own[i]? with
      | none => rw [q] at e2; cases e2
      | some a => rw [q] at e2; cases e2
    · rw [List.getElem?_append_right (by simpa using hi), List.getElem?_map, List.length_map] at e2
      rw [List.getElem?_append_right (by simpa using hi), List.getElem?_map] at e1
      cases q : cap[i - own.length]? with
      | none => rw [q] at e2; cases e2
      | some p =>
        rw [q] at e1 e2
        obtain ⟨y, j⟩ := p
        have ex : y = x := Option.some.inj e1
        subst ex
        have hj : σ[j]? = some (some v) := by
          have : (σ[j]?).join = some v := Option.some.inj e2
          cases z : σ[j]? with
          | none => rw [z] at this; cases this
          | some a => rw [z] at this; rw [show a = some v from this]
        obtain ⟨c1, c2⟩ := S.cap _ (List.mem_of_getElem? q)
        have c1 : X.N[j]? = some y := c1
        have c2 : sc.names.lookup y = some .free := c2
        obtain ⟨m, hm, hl⟩ := I.loc
        have hos := S.free _ (mem_of_look c2) rfl
        have hos : X.env.scope.names.lookup y = some .cell ∨ X.env.scope.names.lookup y = some .free := hos
        obtain ⟨u, r, lk⟩ := hl j y v c1 hj (hos.elim (fun z => .inr (.inl z)) fun z => .inr (.inr z))
        refine ⟨u, r, .inr ⟨look_relabel_free c2, ?_⟩⟩
        obtain ⟨c, hc⟩ := h2 _ (mem_of_look c2) rfl
        rcases lk with ⟨k, _⟩ | ⟨_, c', e, z⟩
        · have k : X.env.scope.names.lookup y = some .local := k
          rcases hos with w' | w' <;> rw [k] at w' <;> cases w'
        · have : c' = c := Option.some.inj (e.symm.trans (h1 y c hc))
          subst this
          obtain ⟨o, ho, hd⟩ := z
          exact ⟨c', hc, o, hk _ _ ho, hd⟩
  · obtain ⟨v, o, ho, hd⟩ := I.cell x c (h1 x c e)
    exact ⟨v, o, hk _ _ ho, hd⟩
  · show (capSt own cap σ).length = (own ++ cap.map (·.1)).length
    unfold capSt
    simp

theorem blk_back {sc : Scope} {N' : List Str} {cl : List (Str × Addr)} {fp : List Addr} {σ' : St} {H' : Hp} {s' : Shared} {h' : Heap} {pins' : List (Addr × Obj)} (I : Inv X pins σ H s) (hf : ∀ b ∈ fp, FpOk X pins H b)
    (J : Inv (blkCx X sc N' cl s H fp) pins' σ' H' s') (hs : Heap.SameBut s.heap.objs.size s'.heap h') : Inv X pins σ H' { s' with heap := h' } := by
  have u := J.base
  have fr : H' s.heap.objs.size = none := J.free
  have ne : ∀ b o, s.heap.get? b = some o → b ≠ s.heap.objs.size := fun b o e => Nat.ne_of_lt (Heap.lt_size e)
  refine I.call' (s' := { s' with heap := h' }) (ch := fp) J.os ⟨fun b o e n hb hx => (hs.2 b (ne b o e)).trans (u.keep b o e n hb hx), fun b o e n hb hx => ?_, u.free, fun b o e hx => ?_, u.tups, u.frzs, u.tbls⟩ (fun a o e => ?_) J.bare
    fun b hb => ⟨(hf b hb).2.2.2.1, (hf b hb).2.1, (hf b hb).2.2.2.2.1, (hf b hb).2.2.2.2.2⟩
  · obtain ⟨sl, q⟩ := u.slot b o e n hb hx
    exact ⟨sl, (hs.2 b (ne b o e)).trans q⟩
  · obtain ⟨o', q⟩ := u.there b o e hx
    exact ⟨o', (hs.2 b (ne b o e)).trans q⟩
  · refine (J.hok a o e).stay (fun b w' hb q => (hs.2 b ?_).trans q) (fun _ q => q) fun _ _ q => q
    rintro rfl
    rcases hb with rfl | hb
    · rw [fr] at e; cases e
    · rw [fr] at hb; cases hb
end

def PTs (X : Cx) (ifs : List Expr) (t : TT) : Prop :=
  ∀ (pins : List (Addr × Obj)) (s : Shared) (σ : St) (H : Hp) (Q : Bool → Hp → Prop), Inv X pins σ H s → t σ H Q →
    wpAny (model X.prog X.w) X.A (forIn ifs true fun c r => if r = true then do let ok ← isTrue c X.env (eval c X.env); pure (ForInStep.yield ok) else pure (ForInStep.yield r)) (TP X pins σ Q) X.xe s
theorem pts_nil {X : Cx} : PTs X [] (fun _ H Q => Q true H) := fun _ _ _ H _ I h => wpAny_tests_nil ⟨H, I, h⟩
theorem pts_one {X : Cx} {c : Expr} {t : TT} (h : PT X c t) : PTs X [c] t := fun pins s σ H Q I q => wpAny_tests_one (h pins s σ H Q I q)

def cLoop (J : It) (l : Addr) (g : TG) (tt : TT) (te : TE) (σ0 : St) (H : Hp) (Q : Hp → Prop) : Prop :=
  ∃ W : Nat → Nat → List V → St → Hp → Prop, (∃ m, W 0 m [] σ0 H) ∧ ∀ i m ys σ H, W i m ys σ H →
    (J.stop i H ∧ Q H) ∨ (J.go i H ∧ ∃ N : List V → St → Hp → Prop, (∀ zs σ' H', N zs σ' H' → ∃ m', m' < m ∧ W (i + 1) m' zs σ' H') ∧ ∀ x H1, J.yld i H x H1 → g x σ H1 fun σ2 H2 => tt σ2 H2 fun b H3 =>
      if b = true then te σ2 H3 fun y H4 => H4 l = some (.lst ys) ∧ ys.length < sizeLine ∧ N (ys ++ [y]) σ2 (upd H4 l (.lst (ys ++ [y])))
      else N ys σ2 H3)
def tComp (wi : TI) (own : List Str) (cap : List (Str × Nat)) (g : TG) (tt : TT) (te : TE) : TE := fun σ H Q =>
  wi σ H fun J H1 => ∀ l, H1 l = none → cLoop J l g tt te (capSt own cap σ) (upd H1 l (.lst [])) fun H2 => Q (.ref l) H2

section
variable {X : Cx} {pins : List (Addr × Obj)} {σ : St} {H : Hp} {s : Shared} {elt tg iter : Expr} {ifs : List Expr} {sc : Scope} {pos : Pos} {own : List Str} {cap : List (Str × Nat)} {wi : TI} {g : TG} {tt : TT} {te : TE}

theorem blk_loop {N' : List Str} {cl : List (Str × Addr)} {s0 : Shared} {H0 : Hp} {fp : List Addr} {it l : Addr} {tn : Nat → Heap → Prop} {J : It} {R : Result → Shared → Prop} {Q : Hp → Prop} {σ0 : St}
    (hc : X.calm = true) (T : Turn X.prog X.w X.K tg J fp it tn) (hfp : ∀ {H' : Hp}, (∀ b ∈ fp, H' b = none) → ∀ b ∈ fp, FpOk (blkCx X sc N' cl s0 H0 fp) [] H' b)
    (hg : PG (blkCx X sc N' cl s0 H0 fp) tg g) (ht : PTs (blkCx X sc N' cl s0 H0 fp) ifs tt) (he : PE (blkCx X sc N' cl s0 H0 fp) elt te)
    (I : Inv (blkCx X sc N' cl s0 H0 fp) [] σ0 H s) (st : tn 0 s.heap) (fr : ∀ b ∈ fp, H b = none) (h : cLoop J l g tt te σ0 H Q)
    (hR : ∀ σ' H' s', Inv (blkCx X sc N' cl s0 H0 fp) [] σ' H' s' → Q H' → R (.ok .next) s') :
    codeAny (model X.prog X.w) X.A (.compLoop (.ListComp elt [⟨tg, iter, ifs, 0⟩] sc pos) 0 (.ref it) (.ref l) (blkCx X sc N' cl s0 H0 fp).env) R s := by
  obtain ⟨W, ⟨m0, w0⟩, turn⟩ := h
  refine codeAny_loop rfl (fun n s' => ∃ i ys σ' H', Inv (blkCx X sc N' cl s0 H0 fp) [] σ' H' s' ∧ tn i s'.heap ∧ (∀ b ∈ fp, H' b = none) ∧ W i n ys σ' H') (fun n s1 hI => ?_) m0 ⟨0, [], σ0, H, I, st, fr, w0⟩
  obtain ⟨i, ys, σ1, H1, I1, st1, fr1, w1⟩ := hI
  show wpAny _ X.A ((compTurn (.ListComp elt [⟨tg, iter, ifs, 0⟩] sc pos) 0 (.ref it) (.ref l) (blkCx X sc N' cl s0 H0 fp).env).onRaise (fun x => do noteFrame x (blkCx X sc N' cl s0 H0 fp).env; theTreesLotGoes x)) _ _ s1
  refine wpAny_noted ?_
  rw [compTurn_list]
  refine wpAny_bind (wpAny_standAt (wpAny_bind ?_))
  have nope : ∀ {α : Type} {t : Sem α} {Q : α → Shared → Prop} {E : Value → Shared → Prop} {z : Shared}, wpAny (model X.prog X.w) X.A t Q (fun _ _ => False) z → wpAny (model X.prog X.w) X.A t Q E z := fun q => wpAny_mono q (fun _ _ r => r) fun _ _ f => f.elim
  rcases turn i n ys σ1 H1 w1 with ⟨stop, q⟩ | ⟨go, N, hN, step⟩
  · refine nope (thn (T.done (blkCx X sc N' cl s0 H0 fp) rfl rfl rfl hc i [] s1 σ1 H1 _ I1 (hfp fr1) st1 stop) fun r s2 ⟨hr, I2⟩ => ?_)
    subst hr
    exact wpAny_pure (hR _ _ _ I2 q)
  · refine nope (thn (T.item (blkCx X sc N' cl s0 H0 fp) rfl rfl rfl hc i [] s1 σ1 H1 _ I1 (hfp fr1) st1 go) fun r s2 ⟨u, hr, h2⟩ => ?_)
    subst hr
    refine wpAny_bind (nope (thn h2 fun _ s3 ⟨x, H3, I3, r3, y3, st3, fr3⟩ => ?_))
    have I3' := I3.pinned (hfp fr3) (T.obj _ _ st3)
    refine wpAny_bind (nope (thn (hg _ s3 σ1 H3 x u _ I3' r3 (step x H3 y3)) fun _ s4 ⟨σ4, H4, I4, q4⟩ => ?_))
    refine wpAny_bind (nope (thn (ht _ s4 σ4 H4 _ I4 q4) fun ok s5 ⟨H5, I5, q5⟩ => ?_))
    have back : ∀ {σ6 : St} {H6 : Hp} {s6 : Shared} {zs : List V}, Inv (blkCx X sc N' cl s0 H0 fp) ([] ++ pinsAt fp s3.heap) σ6 H6 s6 → N zs σ6 H6 →
        ∃ m, m < n ∧ ∃ i ys σ' H', Inv (blkCx X sc N' cl s0 H0 fp) [] σ' H' s6 ∧ tn i s6.heap ∧ (∀ b ∈ fp, H' b = none) ∧ W i m ys σ' H' := fun {σ6 H6 s6 zs} I6 n6 => by
      obtain ⟨n', hm, w6⟩ := hN zs σ6 H6 n6
      refine ⟨n', hm, i + 1, zs, σ6, H6, I6.unpinned, T.keep _ _ _ st3 fun b hb o e => (I6.pin (b, o) (List.mem_append_right _ (List.mem_append_right _ (mem_pinsAt hb e)))).1, fun b hb => ?_, w6⟩
      obtain ⟨o, e, d⟩ := T.obj _ _ st3 b hb
      exact (I6.pin (b, o) (List.mem_append_right _ (List.mem_append_right _ (mem_pinsAt hb e)))).2.1
    cases ok with
    | false =>
      exact wpAny_pure ⟨rfl, back I5 q5⟩
    | true =>
      refine wpAny_bind (wpAny_bind (nope (thn (he _ s5 σ4 H5 _ I5 q5) fun v s6 ⟨y, H6, I6, r6, q6⟩ => ?_)))
      obtain ⟨hl, hz, w6⟩ := q6
      refine wpAny_bind (nope (thn (mt_append (X := blkCx X sc N' cl s0 H0 fp) _ s6 σ4 H6 (.ref l) [y] (.ref l) [v] (fun z H7 => z = .non ∧ H7 = upd H6 l (.lst (ys ++ [y]))) I6 rfl (.cons r6 .nil) ⟨l, ys, y, rfl, rfl, hl, hz, rfl, rfl⟩) fun z s7 ⟨_, H7, I7, _, _, e7⟩ => ?_))
      subst e7
      exact wpAny_pure (wpAny_pure ⟨rfl, back I7 w6⟩)

theorem blk_run {Q : Hp → Prop} {J : It} {fp : List Addr} {it : Addr} {tn : Nat → Heap → Prop} {E : Value → Shared → Prop} {RR : Addr → Addr → Result → Shared → Prop} {osc : Scope} (hc : X.calm = true) (hos : X.env.scope = osc) (S : BlkSc X.N osc own cap sc)
    (hg : ∀ cl s H fp, PG (blkCx X sc (own ++ cap.map (·.1)) cl s H fp) tg g) (ht : ∀ cl s H fp, PTs (blkCx X sc (own ++ cap.map (·.1)) cl s H fp) ifs tt) (he : ∀ cl s H fp, PE (blkCx X sc (own ++ cap.map (·.1)) cl s H fp) elt te)
    (I : Inv X pins σ H s) (T : Turn X.prog X.w X.K tg J fp it tn) (st : tn 0 s.heap) (hf : ∀ b ∈ fp, FpOk X pins H b)
    {cl : List (Str × Addr)} (h1 : ∀ x c, cl.lookup x = some c → X.env.cells.lookup x = some c) (h2 : ∀ y ∈ sc.names, y.2 = .free → ∃ c, cl.lookup y.1 = some c)
    (h : cLoop J s.heap.objs.size g tt te (capSt own cap σ) (upd H s.heap.objs.size (.lst [])) Q)
    (hR : ∀ (s3 : Shared) (H' : Hp) (s' : Shared), (∀ b o, s.heap.get? b = some o → s3.heap.get? b = some o) → (∀ h', Heap.SameBut s3.heap.objs.size s'.heap h' → Inv X pins σ H' { s' with heap := h' }) → (∃ m, s'.heap.Ns s3.heap.objs.size m) → H' s3.heap.objs.size = none →
      X.env.locals < s3.heap.objs.size → (∀ x c, X.env.cells.lookup x = some c → c < s3.heap.objs.size) → (∀ p ∈ X.pn ++ pins, p.1 < s3.heap.objs.size) → X.s₀.heap.objs.size ≤ s3.heap.objs.size → Q H' → RR s.heap.objs.size s3.heap.objs.size (.ok .next) s') :
    wpAny (model X.prog X.w) X.A (newList []) (fun acc s3 => ∃ a, acc = .ref a ∧ wpAny (model X.prog X.w) X.A (newFunctionEnv sc X.env.globals cl [] X.env.qual none .none (some X.env)) (fun cenv s4 =>
      codeAny (model X.prog X.w) X.A (.compStart (.ListComp elt [⟨tg, iter, ifs, 0⟩] sc pos) 0 (.ref it) (.ref a) { cenv with scope := relabel sc X.env }) (RR a cenv.locals) s4) E s3) E s := by
  subst hos
  refine wpAny_newList ?_
  have I3 : Inv X pins σ (upd H s.heap.objs.size (.lst [])) { s with heap := s.heap.push { cls := .type "list", data := .seq ([] : List Value).toArray }, toks := s.toks } := I.lnew (t' := s.toks) .nil (Nat.zero_le _)
  have ob : ∀ b ∈ fp, ∃ o, s.heap.get? b = some o := fun b hb => let ⟨o, e, _⟩ := T.obj _ _ st b hb; ⟨o, e⟩
  have nb : ∀ b ∈ fp, b ≠ s.heap.objs.size := fun b hb => let ⟨o, e⟩ := ob b hb; Nat.ne_of_lt (Heap.lt_size e)
  have f3 : ∀ b ∈ fp, FpOk X pins (upd H s.heap.objs.size (.lst [])) b := fun b hb => ⟨by rw [upd_ne (nb b hb)]; exact (hf b hb).1, (hf b hb).2⟩
  have k3 : ∀ b o, s.heap.get? b = some o → (s.heap.push { cls := .type "list", data := .seq ([] : List Value).toArray }).get? b = some o := fun b o e => Heap.get?_push_of_some _ e
  generalize hS3 : ({ s with heap := s.heap.push { cls := .type "list", data := .seq ([] : List Value).toArray }, toks := s.toks } : Shared) = s3 at I3
  have e3 : s3.heap = s.heap.push { cls := .type "list", data := .seq ([] : List Value).toArray } := by rw [← hS3]
  have ob3 : ∀ b ∈ fp, ∃ o, s3.heap.get? b = some o := fun b hb => let ⟨o, e⟩ := ob b hb; ⟨o, by rw [e3]; exact k3 b o e⟩
  have lt3 : ∀ b ∈ fp, b < s3.heap.objs.size := fun b hb => let ⟨o, e⟩ := ob3 b hb; Heap.lt_size e
  refine ⟨_, rfl, ?_⟩
  refine wpAny_newFunctionEnv S.nocell (by intro y hy; simp at hy) (fun h' hn hsb => ?_) S.kind
  have k4 : ∀ b o, s3.heap.get? b = some o → h'.get? b = some o := fun b o e => hsb.extBut b o (Nat.ne_of_lt (Heap.lt_size e)) (Heap.get?_push_of_some _ e)
  have J4 : Inv (blkCx X sc (own ++ cap.map (·.1)) cl s3 (upd H s.heap.objs.size (.lst [])) fp) [] (capSt own cap σ) (upd H s.heap.objs.size (.lst [])) { s3 with heap := h', toks := s3.toks + ([] : List (Str × Value)).length } :=
    blk_inv I3 f3 ob3 S h1 h2 ⟨_, hn⟩ k4
  have st4 : tn 0 h' := T.keep _ _ _ st fun b _ o e => k4 b o (by rw [e3]; exact k3 b o e)
  have loop : codeAny (model X.prog X.w) X.A (.compLoop (.ListComp elt [⟨tg, iter, ifs, 0⟩] sc pos) 0 (.ref it) (.ref s.heap.objs.size) (blkCx X sc (own ++ cap.map (·.1)) cl s3 (upd H s.heap.objs.size (.lst [])) fp).env)
      (RR s.heap.objs.size s3.heap.objs.size) { s3 with heap := h', toks := s3.toks + ([] : List (Str × Value)).length } := by
    refine blk_loop hc T (fun {H'} hn b hb => ⟨hn b hb, Nat.ne_of_lt (lt3 b hb), fun z => ?_, .inl hb, fun x c e => (f3 b hb).2.2.2.2.1 x c (h1 x c e), fun p hp => absurd (show p ∈ ([] : List (Addr × Obj)) from hp) (by simp)⟩) (hg _ _ _ _) (ht _ _ _ _) (he _ _ _ _) J4 st4
      (fun b hb => (f3 b hb).1) h fun σ' H' s' J q => ?_
    · rcases List.mem_cons.mp (I3.stkSub b z) with z | z
      · exact (f3 b hb).2.1 z
      · exact (f3 b hb).2.2.1 z
    · obtain ⟨m, hm, _⟩ := J.loc
      exact hR s3 H' s' (fun b o e => by rw [e3]; exact k3 b o e) (fun h'' hs'' => blk_back I3 f3 J hs'') ⟨m, hm⟩ J.free I3.lt (fun x c e => let ⟨v, o, ho, _⟩ := I3.cell x c e; Heap.lt_size ho) (fun p hp => Heap.lt_size (I3.pin p hp).1) I3.sz q
  exact codeAny_compStart_list loop (T.self _ _ _ _ _ st4 loop)

theorem pe_comp {osc : Scope} (hc : X.calm = true) (hos : X.env.scope = osc) (S : BlkSc X.N osc own cap sc) (hi : PI X tg iter wi)
    (hg : ∀ cl s H fp, PG (blkCx X sc (own ++ cap.map (·.1)) cl s H fp) tg g) (ht : ∀ cl s H fp, PTs (blkCx X sc (own ++ cap.map (·.1)) cl s H fp) ifs tt) (he : ∀ cl s H fp, PE (blkCx X sc (own ++ cap.map (·.1)) cl s H fp) elt te)
    (hs : ∀ x, foldedSetIterable iter X.env x = pure x := by intro _; rfl) : PE X (.ListComp elt [⟨tg, iter, ifs, 0⟩] sc pos) (tComp wi own cap g tt te) := by
  intro pins s σ H Q I h
  obtain ⟨cl, hcl, h1, h2⟩ := clo_of (env := X.env) (sc := sc) fun y hy hf => I.ok.has y.1 (by have := S.free y hy hf; rw [← hos] at this; exact this)
  rw [eval_ListComp]
  refine wpAny_comprehension_free (use := none) rfl hs hcl S.kind S.names (thn (hi pins s σ H _ I h) fun xv s1 q1 => thn q1 fun itv s2 q2 => ?_)
  obtain ⟨it, fp, tn, J, H2, e, I2, T, st2, f2, q⟩ := q2
  subst e
  refine thn (blk_run (iter := iter) (pos := pos) (RR := fun a C r s' => compPost (model X.prog X.w) X.A X.xe none (EP X pins σ Q) (.ref a) C r s') hc hos S hg ht he I2 T st2 f2 h1 h2 (q _ I2.fresh) fun s3 H' s' _ back hm _ _ _ _ _ q' => ?_) fun acc s3 q3 => ?_
  · obtain ⟨m, hm⟩ := hm
    exact ⟨m, hm, fun h'' hs'' => ⟨.ref s2.heap.objs.size, H', back h'' hs'', rfl, q'⟩⟩
  · obtain ⟨a, rfl, q3⟩ := q3
    exact q3
def sComp (i : Nat) (wi : TI) (own : List Str) (cap : List (Str × Nat)) (g : TG) (tt : TT) (te : TE) : TS := fun D σ H => tComp wi own cap g tt te σ H fun v H1 => D.nx (σ.set i (some v)) H1
theorem ps_comp {osc : Scope} {i : Nat} {x : Str} {px spos : Pos} (hc : X.calm = true) (hos : X.env.scope = osc) (S : BlkSc X.N osc own cap sc) (hN : X.N.Nodup) (hx : X.N[i]? = some x) (hl : X.env.scope.names.lookup x = some .local)
    (hsw : swapsWith (.ListComp elt [⟨tg, iter, ifs, 0⟩] sc pos) (some (.Name x px)) spos.line X.env = pure true) (hi : PI X tg iter wi)
    (hg : ∀ cl s H fp, PG (blkCx X sc (own ++ cap.map (·.1)) cl s H fp) tg g) (ht : ∀ cl s H fp, PTs (blkCx X sc (own ++ cap.map (·.1)) cl s H fp) ifs tt) (he : ∀ cl s H fp, PE (blkCx X sc (own ++ cap.map (·.1)) cl s H fp) elt te)
    (hs : ∀ x, foldedSetIterable iter X.env x = pure x := by intro _; rfl) : PS X (.Assign [.Name x px] (.ListComp elt [⟨tg, iter, ifs, 0⟩] sc pos) spos) (sComp i wi own cap g tt te) := by
  intro pins s σ H D I h
  obtain ⟨cl, hcl, h1, h2⟩ := clo_of (env := X.env) (sc := sc) fun y hy hf => I.ok.has y.1 (by have := S.free y hy hf; rw [← hos] at this; exact this)
  rw [exec_Assign_Name_used _ _ _ _ hsw]
  refine wpAny_bind (wpAny_standAt (wpAny_bind ?_))
  show wpAny _ _ (do let _ ← comprehension (.ListComp elt [⟨tg, iter, ifs, 0⟩] sc pos) sc X.env _ (newList []) false (eval iter X.env) (some (assign (.Name x px) X.env))) _ _ s
  refine wpAny_bind (wpAny_mono (wpAny_comprehension_free (use := some (assign (.Name x px) X.env)) (Q := fun _ s' => SP X pins D .next s') rfl hs hcl S.kind S.names
    (thn (hi pins s σ H _ I h) fun xv s1 q1 => thn q1 fun itv s2 q2 => ?_)) (fun _ s' hq => wpAny_pure (wpAny_pure hq)) fun _ _ e => e)
  obtain ⟨it, fp, tn, J, H2, e, I2, T, st2, f2, q⟩ := q2
  subst e
  refine thn (blk_run (iter := iter) (pos := pos) (RR := fun a C r s' => compPost (model X.prog X.w) X.A X.xe (some (assign (.Name x px) X.env)) (fun _ s' => SP X pins D .next s') (.ref a) C r s') hc hos S hg ht he I2 T st2 f2 h1 h2 (q _ I2.fresh)
    fun s3 H' s' _ back hm fC hL hCl hP hz q' => ?_) fun acc s3 q3 => ?_
  · obtain ⟨m, hm⟩ := hm
    have I' : Inv X pins σ H' { s' with heap := s'.heap } := back s'.heap (.refl ..)
    refine wpAny_assign_Name (store_ok2 I' hN hx (.inl hl) (v := .ref s2.heap.objs.size) rfl (fun s'' I'' ⟨a, hsb, ha⟩ => ?_) (.inr hl))
    have na : a ≠ s3.heap.objs.size := by
      rcases ha with rfl | ha
      · exact Nat.ne_of_lt hL
      · exact Nat.ne_of_lt (hCl _ _ ha)
    refine ⟨m, hm.sameBut hsb (Ne.symm na), fun h'' hs'' => ⟨_, H', ?_, q'⟩⟩
    exact I''.turned (t' := s''.toks) (fun b o hb e => (hs''.2 b hb).trans e) fC (Nat.ne_of_gt hL) (.inr hz) (fun y c e => Nat.ne_of_lt (hCl y c e)) (fun p hp => Nat.ne_of_lt (hP p hp))
  · obtain ⟨a, rfl, q3⟩ := q3
    exact q3
end

theorem Inv.turnLay {X : Cx} {pins : List (Addr × Obj)} {σ : St} {H : Hp} {s : Shared} {h' : Heap} {a : Addr} {o : HO} {t' : Nat} {ch : List Addr} (I : Inv X pins σ H s) (hf : ∀ b ∈ ch, FpOk X pins H b)
    (k : ∀ b u, b ∉ ch → s.heap.get? b = some u → h'.get? b = some u) (hp : s.heap.objs.size ≤ a) (new : ObjOk X.prog X.w (upd H a o) h' a o) : Inv X pins σ (upd H a o) { s with heap := h', toks := t' } := by
  have fr : H a = none := I.hok.fresh hp
  have nt : ∀ b u, s.heap.get? b = some u → b ≠ a := fun b u q => Nat.ne_of_lt (Nat.lt_of_lt_of_le (Heap.lt_size q) hp)
  have nT : ∀ b u, H b = some u → b ≠ a := fun b u q => ne_of_none q fr
  have nc : ∀ b u, H b = some u → b ∉ ch := fun b u q z => by rw [(hf b z).1] at q; cases q
  refine I.step (g' := s.gens) (d' := s.drawn) (ch := ch) (fun b hb => ⟨(hf b hb).2.2.2.1, (hf b hb).2.1, (hf b hb).2.2.2.2.1, (hf b hb).2.2.2.2.2⟩) (fun b u _ _ hb q _ => k b u hb q) (fun b u _ _ hb q _ => ⟨u.slots, k b u hb q⟩)
    (fun b u _ q n => by rw [upd_ne (nt b u q)]; exact n) (fun b u hb q => ⟨u, k b u hb q⟩) (fun b ys q => by rw [upd_ne (nT b _ q)]; exact q) (fun b u v q => by rw [upd_ne (nT b _ q)]; exact q) (fun b ps q => ⟨#[], by rw [upd_ne (nT b _ q), q]; simp⟩) (fun m hm => ?_) (fun b u q => ?_) I.bare
  · obtain ⟨ob, es, ep, ho, r⟩ := hm
    exact ⟨ob, es, ep, k _ ob (fun z => (hf _ z).2.1 rfl) ho, r⟩
  · by_cases hb : b = a
    · subst hb
      rw [upd_same] at q
      cases q
      exact new
    · rw [upd_ne hb] at q
      refine (I.hok b u q).stay (fun c v hc z => k c v ?_ z) (fun c z => by rw [upd_ne (nT c _ z)]; exact z) fun c ys z => by rw [upd_ne (nT c _ z)]; exact z
      rcases hc with rfl | hc
      · exact nc _ _ q
      · exact nc _ _ hc

section
variable {X : Cx}
end

section
variable {l : Addr} {g : TG} {tt : TT} {te : TE} {σ0 : St} {H : Hp} {Q : Hp → Prop}
theorem c_list {K : PySem.W.Frag} {a : Addr} {xs : List V} (Pv : Nat → List V → St → Hp → Prop) (h0 : Pv 0 [] σ0 H) (hl : ∀ i ys σ H, i ≤ xs.length → Pv i ys σ H → SqL K H a xs)
    (hs : ∀ i x ys σ H, xs[i]? = some x → Pv i ys σ H → g x σ H fun σ2 H2 => tt σ2 H2 fun b H3 =>
      if b = true then te σ2 H3 fun y H4 => H4 l = some (.lst ys) ∧ ys.length < sizeLine ∧ Pv (i + 1) (ys ++ [y]) σ2 (upd H4 l (.lst (ys ++ [y]))) else Pv (i + 1) ys σ2 H3)
    (hd : ∀ ys σ H, Pv xs.length ys σ H → Q H) : cLoop (Itl K a) l g tt te σ0 H Q := by
  refine ⟨fun i m ys σ H => m = xs.length - i ∧ i ≤ xs.length ∧ Pv i ys σ H, ⟨xs.length, by simp, Nat.zero_le _, h0⟩, ?_⟩
  rintro i m ys σ H ⟨rfl, hi, p⟩
  have q := hl i ys σ H hi p
  by_cases hlt : i < xs.length
  · refine .inr ⟨⟨xs, xs[i], q, by simp [hlt]⟩, Pv (i + 1), fun zs σ' H' z => ⟨xs.length - (i + 1), by omega, rfl, hlt, z⟩, fun x H' y => ?_⟩
    obtain ⟨e, y⟩ := y
    subst e
    exact hs i x ys σ _ (y xs q) p
  · have e : i = xs.length := by omega
    subst e
    exact .inl ⟨⟨xs, q, Nat.le_refl _⟩, hd ys σ H p⟩
theorem c_range {lo : Int} {n : Nat} (Pv : Nat → List V → St → Hp → Prop) (h0 : Pv 0 [] σ0 H)
    (hs : ∀ i ys σ H, i < n → Pv i ys σ H → g (.int (lo + i)) σ H fun σ2 H2 => tt σ2 H2 fun b H3 =>
      if b = true then te σ2 H3 fun y H4 => H4 l = some (.lst ys) ∧ ys.length < sizeLine ∧ Pv (i + 1) (ys ++ [y]) σ2 (upd H4 l (.lst (ys ++ [y]))) else Pv (i + 1) ys σ2 H3)
    (hd : ∀ ys σ H, Pv n ys σ H → Q H) : cLoop (Itr lo n) l g tt te σ0 H Q := by
  refine ⟨fun i m ys σ H => m = n - i ∧ i ≤ n ∧ Pv i ys σ H, ⟨n, by simp, Nat.zero_le _, h0⟩, ?_⟩
  rintro i m ys σ H ⟨rfl, hi, p⟩
  by_cases hlt : i < n
  · refine .inr ⟨hlt, Pv (i + 1), fun zs σ' H' z => ⟨n - (i + 1), by omega, rfl, hlt, z⟩, fun x H' y => ?_⟩
    obtain ⟨e, y⟩ := y
    subst e y
    exact hs i ys σ _ hlt p
  · have e : i = n := by omega
    subst e
    exact .inl ⟨Nat.le_refl _, hd ys σ H p⟩
end
section
variable {X : Cx} {tg : Expr}
def iSeq (K : PySem.W.Frag) (tl : TE) : TI := fun σ H R => tl σ H fun x H1 => (∃ a, x = .ref a ∧ (∃ xs, SqL K H1 a xs) ∧ R (Itl K a) H1) ∨ ∃ a, x = .ref a ∧ (∃ xs, SqT K H1 a xs) ∧ R (Itt K a) H1
theorem pi_seq {l : Expr} {tl : TE} (hl : PE X l tl) : PI X tg l (iSeq X.K tl) := by
  intro pins s σ H R I h
  refine thn (hl pins s σ H _ I h) fun v s1 ⟨x, H1, I1, r1, q1⟩ => ?_
  have f : ∀ {b : Addr}, b ∈ [s1.heap.objs.size] → FpOk X pins H1 b := fun {b} hb => by
    have e : b = s1.heap.objs.size := by simpa using hb
    subst e
    exact I1.fpOk (Nat.le_refl _) (I1.hok.fresh (Nat.le_refl _))
  rcases q1 with ⟨a, rfl, ⟨xs, hq⟩, q⟩ | ⟨a, rfl, ⟨xs, hq⟩, q⟩
  · cases r1
    obtain ⟨its, rv, p, hz⟩ := I1.list hq
    exact wpAny_pyIter_list p.isList ⟨s1.heap.objs.size, [s1.heap.objs.size], _, _, H1, rfl, I1.kept (t' := s1.toks) fun b o e => Heap.get?_push_of_some _ e, turn_list a _, ⟨_, Heap.get?_push_size _ rfl, rfl, rfl⟩, fun b hb => f hb, q⟩
  · cases r1
    obtain ⟨its, rv, p, hz⟩ := I1.tuple hq
    exact wpAny_pyIter_tuple (show s1.heap.IsTuple a its.toArray from p) ⟨s1.heap.objs.size, [s1.heap.objs.size], _, _, H1, rfl, I1.kept (t' := s1.toks) fun b o e => Heap.get?_push_of_some _ e, turn_tuple a _, ⟨_, Heap.get?_push_size _ rfl, rfl, rfl⟩, fun b hb => f hb, q⟩
end
end L2
namespace L2
open PySem PySem.Spec PyProof.Rows

mutual
def Dt (K : PySem.W.Frag) (H : Hp) : PyData → V → Prop
  | .none, v => v = .non
  | .bool b, v => v = .bl b
  | .int i, v => v = .int i
  | .str x, v => v = .str x
  | .list ds, v => ∃ a xs, v = .ref a ∧ SqL K H a xs ∧ DtAll K H ds xs
  | .tuple ds, v => ∃ a xs, v = .ref a ∧ SqT K H a xs ∧ DtAll K H ds xs
  | .dict _, _ => False
def DtAll (K : PySem.W.Frag) (H : Hp) : List PyData → List V → Prop
  | [], vs => vs = []
  | d :: ds, vs => ∃ v r, vs = v :: r ∧ Dt K H d v ∧ DtAll K H ds r
end

theorem Same.tupq {K : PySem.W.Frag} {H H' : Hp} {a : Addr} {xs : List V} (e : Same H H') (h : SqT K H a xs) : SqT K H' a xs := by
  rcases h with (h | ⟨o, h⟩) | h
  · exact .inl (.inl (e _ _ h))
  · exact .inl (.inr ⟨o, e _ _ h⟩)
  · exact .inr h
theorem Same.put {H0 H : Hp} {l : Addr} {o : HO} (s : Same H0 H) (h : H0 l = none) : Same H0 (upd H l o) := fun b u q => by
  rw [upd_ne (ne_of_none q h)]
  exact s b u q
theorem Same.new {H : Hp} {l : Addr} {o : HO} (h : H l = none) : Same H (upd H l o) := (Same.refl H).put h

mutual
theorem Dt.same {K : PySem.W.Frag} {H H' : Hp} (e : Same H H') : ∀ (d : PyData) (v : V), Dt K H d v → Dt K H' d v
  | .none, _, h => by unfold Dt at h ⊢; exact h
  | .bool _, _, h => by unfold Dt at h ⊢; exact h
  | .int _, _, h => by unfold Dt at h ⊢; exact h
  | .str _, _, h => by unfold Dt at h ⊢; exact h
  | .list ds, _, h => by
    unfold Dt at h ⊢
    obtain ⟨a, xs, e1, e2, e3⟩ := h
    exact ⟨a, xs, e1, e.seq e2, DtAll.same e ds xs e3⟩
  | .tuple ds, _, h => by
    unfold Dt at h ⊢
    obtain ⟨a, xs, e1, e2, e3⟩ := h
    exact ⟨a, xs, e1, e.tupq e2, DtAll.same e ds xs e3⟩
  | .dict _, _, h => by unfold Dt at h; exact h.elim
theorem DtAll.same {K : PySem.W.Frag} {H H' : Hp} (e : Same H H') : ∀ (ds : List PyData) (vs : List V), DtAll K H ds vs → DtAll K H' ds vs
  | [], _, h => by unfold DtAll at h ⊢; exact h
  | d :: ds, _, h => by
    unfold DtAll at h ⊢
    obtain ⟨v, r, e1, e2, e3⟩ := h
    exact ⟨v, r, e1, Dt.same e d v e2, DtAll.same e ds r e3⟩
end

section
variable {X : Cx} {pins : List (Addr × Obj)} {σ : St} {H : Hp} {s : Shared}
mutual
theorem Inv.reads (I : Inv X pins σ H s) : ∀ (d : PyData) (v : V) (u : Value), Dt X.K H d v → RelV v u → ∃ as, Reads s.heap u d as
  | .none, v, u, h, r => by
    unfold Dt at h; subst h; cases (show u = Value.none from r); exact ⟨_, .none⟩
  | .bool b, v, u, h, r => by
    unfold Dt at h; subst h; cases (show u = Value.bool b from r); exact ⟨_, .bool b⟩
  | .int i, v, u, h, r => by
    unfold Dt at h; subst h; obtain ⟨t, rfl⟩ := (show ∃ t, u = Value.int i t from r); exact ⟨_, .int i t⟩
  | .str x, v, u, h, r => by
    unfold Dt at h; subst h; obtain ⟨t, rfl⟩ := (show ∃ t, u = Value.str x t from r); exact ⟨_, .str x t⟩
  | .list ds, v, u, h, r => by
    unfold Dt at h
    obtain ⟨a, xs, rfl, hq, hs⟩ := h
    cases (show u = Value.ref a from r)
    obtain ⟨its, rv, pl, _⟩ := I.list hq
    obtain ⟨as, ra⟩ := Inv.readsAll I ds xs its hs rv
    obtain ⟨o, n, h1, h2, _, h3⟩ := pl
    exact ⟨_, .list h1 h2 h3 (by simpa using ra)⟩
  | .tuple ds, v, u, h, r => by
    unfold Dt at h
    obtain ⟨a, xs, rfl, hq, hs⟩ := h
    cases (show u = Value.ref a from r)
    obtain ⟨its, rv, pl, _⟩ := I.tuple hq
    obtain ⟨as, ra⟩ := Inv.readsAll I ds xs its hs rv
    obtain ⟨o, h1, h2, n, h3⟩ := pl
    exact ⟨_, .tuple h1 h2 h3 (by simpa using ra)⟩
  | .dict _, v, u, h, r => by unfold Dt at h; exact h.elim
theorem Inv.readsAll (I : Inv X pins σ H s) : ∀ (ds : List PyData) (vs : List V) (us : List Value), DtAll X.K H ds vs → Vals vs us → ∃ as, ReadsAll s.heap us ds as
  | [], vs, us, h, r => by
    unfold DtAll at h; subst h; cases r; exact ⟨_, .nil⟩
  | d :: ds, vs, us, h, r => by
    unfold DtAll at h
    obtain ⟨v, q, rfl, h1, h2⟩ := h
    cases r with
    | cons r1 r2 =>
      obtain ⟨as, ra⟩ := Inv.reads I d v _ h1 r1
      obtain ⟨bs, rb⟩ := Inv.readsAll I ds q _ h2 r2
      exact ⟨_, .cons ra rb⟩
end
def rEqD (K : PySem.W.Frag) (neg : Bool) : R2 := fun x y H Q => ∃ d e, Dt K H d x ∧ Dt K H e y ∧ SeqAt.shaped d = true ∧ SeqAt.shaped e = true ∧ Q (.bl (if neg then !PyData.eqv d e else PyData.eqv d e)) H
theorem op_eqD (hu : X.A.units + 64 < cLine) : OpR X (compareOp .Eq) (rEqD X.K false) := by
  intro pins s σ H x y v u Q I rx ry h
  obtain ⟨d, e, h1, h2, s1, s2, q⟩ := h
  obtain ⟨as, ra⟩ := I.reads d x v h1 rx
  obtain ⟨bs, rb⟩ := I.reads e y u h2 ry
  exact eq_dataH ra rb s1 s2 hu ⟨.bl _, H, I, rfl, q⟩
theorem op_neD (hu : X.A.units + 64 < cLine) : OpR X (compareOp .NotEq) (rEqD X.K true) := by
  intro pins s σ H x y v u Q I rx ry h
  obtain ⟨d, e, h1, h2, s1, s2, q⟩ := h
  obtain ⟨as, ra⟩ := I.reads d x v h1 rx
  obtain ⟨bs, rb⟩ := I.reads e y u h2 ry
  exact ne_dataH ra rb s1 s2 hu ⟨.bl _, H, I, rfl, q⟩
end

def dI (ns : List Int) : PyData := .list (ns.map .int)
def dII (nss : List (List Int)) : PyData := .list (nss.map dI)
def dP (p : Int × Int) : PyData := .tuple [.int p.1, .int p.2]
theorem dtAll_map {α : Type} {K : PySem.W.Frag} {H : Hp} {f : α → PyData} {F : α → V → Prop} (hf : ∀ x v, F x v → Dt K H (f x) v) : ∀ {xs : List α} {vs : List V}, Paired F xs vs → DtAll K H (xs.map f) vs
  | _, _, .nil => by unfold DtAll; rfl
  | _, _, .cons h t => by
    rw [List.map_cons]
    unfold DtAll
    exact ⟨_, _, rfl, hf _ _ h, dtAll_map hf t⟩
theorem dtAll_ints {K : PySem.W.Frag} {H : Hp} : ∀ ns : List Int, DtAll K H (ns.map .int) (ns.map V.int)
  | [] => by rw [List.map_nil, List.map_nil]; unfold DtAll; rfl
  | n :: r => by
    rw [List.map_cons, List.map_cons]
    unfold DtAll
    exact ⟨_, _, rfl, by unfold Dt; rfl, dtAll_ints r⟩
theorem dt_I {K : PySem.W.Frag} {H : Hp} {a : Addr} {ns : List Int} (h : SqL K H a (ns.map V.int)) : Dt K H (dI ns) (.ref a) := by
  unfold dI Dt
  exact ⟨a, _, rfl, h, dtAll_ints ns⟩
theorem dt_P {K : PySem.W.Frag} {H : Hp} {a : Addr} {i j : Int} (h : SqT K H a [.int i, .int j]) : Dt K H (dP (i, j)) (.ref a) := by
  unfold dP Dt
  exact ⟨a, _, rfl, h, dtAll_ints [i, j]⟩
theorem dt_II {K : PySem.W.Frag} {H : Hp} {a : Addr} {vs : List V} {nss : List (List Int)} (h : SqL K H a vs) (hs : Paired (fun ns v => ∃ b, v = V.ref b ∧ SqL K H b (ns.map V.int)) nss vs) : Dt K H (dII nss) (.ref a) := by
  unfold dII Dt
  exact ⟨a, _, rfl, h, dtAll_map (fun ns v ⟨b, e, q⟩ => by rw [e]; exact dt_I q) hs⟩
theorem eqvAll_map {α : Type} [DecidableEq α] {f : α → PyData} (hf : ∀ x y, PyData.eqv (f x) (f y) = decide (x = y)) : ∀ xs ys : List α, PyData.eqvAll (xs.map f) (ys.map f) = decide (xs = ys)
  | [], [] => by simp [PyData.eqvAll]
  | [], _ :: _ => by simp [PyData.eqvAll]
  | _ :: _, [] => by simp [PyData.eqvAll]
  | a :: r, b :: t => by
    simp only [List.map_cons, PyData.eqvAll, hf, eqvAll_map hf r t]
    by_cases h : a = b <;> by_cases h' : r = t <;> simp [h, h']
theorem eqv_int (x y : Int) : PyData.eqv (.int x) (.int y) = decide (x = y) := by
  simp only [PyData.eqv]
  exact Bool.beq_eq_decide_eq x y
theorem eqv_I (xs ys : List Int) : PyData.eqv (dI xs) (dI ys) = decide (xs = ys) := by
  unfold dI
  simp only [PyData.eqv]
  exact eqvAll_map eqv_int xs ys
theorem eqv_II (xs ys : List (List Int)) : PyData.eqv (dII xs) (dII ys) = decide (xs = ys) := by
  unfold dII
  simp only [PyData.eqv]
  exact eqvAll_map eqv_I xs ys
theorem eqv_P (p q : Int × Int) : PyData.eqv (dP p) (dP q) = decide (p = q) := by
  obtain ⟨a, b⟩ := p
  obtain ⟨c, d⟩ := q
  unfold dP
  simp only [PyData.eqv, PyData.eqvAll, Bool.and_true]
  by_cases h : a = c <;> by_cases h' : b = d <;> simp [h, h']
theorem layAll_map {α : Type} {f : α → PyData} (hf : ∀ x, (f x).canLay0 = true) : ∀ xs : List α, PyData.canLayAll0 (xs.map f) = true
  | [] => by simp [PyData.canLayAll0]
  | x :: r => by simp only [List.map_cons, PyData.canLayAll0, hf x, layAll_map hf r, Bool.and_true]
theorem depAll_map {α : Type} {f : α → PyData} {n : Nat} (hf : ∀ x, (f x).depth ≤ n) : ∀ xs : List α, PyData.depthAll (xs.map f) ≤ n
  | [] => by simp [PyData.depthAll]
  | x :: r => by
    have h1 := hf x
    have h2 := depAll_map hf r
    simp only [List.map_cons, PyData.depthAll]
    omega
theorem lay_I (ns : List Int) : (dI ns).canLay0 = true := by
  unfold dI
  simp only [PyData.canLay0]
  exact layAll_map (fun _ => by simp [PyData.canLay0]) ns
theorem dep_I (ns : List Int) : (dI ns).depth ≤ 1 := by
  unfold dI
  simp only [PyData.depth]
  have := depAll_map (f := PyData.int) (n := 0) (fun _ => by simp [PyData.depth]) ns
  omega
theorem lay_II (nss : List (List Int)) : (dII nss).canLay0 = true := by
  unfold dII
  simp only [PyData.canLay0]
  exact layAll_map lay_I nss
theorem dep_II (nss : List (List Int)) : (dII nss).depth ≤ 2 := by
  unfold dII
  simp only [PyData.depth]
  have := depAll_map (f := dI) (n := 1) dep_I nss
  omega
theorem shaped_of {d : PyData} {n : Nat} (h : d.canLay0 = true) (h2 : d.depth ≤ n) (h3 : n ≤ 64) : SeqAt.shaped d = true := by
  unfold SeqAt.shaped
  rw [h, Bool.true_and]
  exact decide_eq_true (Nat.le_trans h2 h3)
theorem shaped_I (ns : List Int) : SeqAt.shaped (dI ns) = true := shaped_of (lay_I ns) (dep_I ns) (by decide)
theorem shaped_II (nss : List (List Int)) : SeqAt.shaped (dII nss) = true := shaped_of (lay_II nss) (dep_II nss) (by decide)
theorem lay_P (p : Int × Int) : (dP p).canLay0 = true := by
  unfold dP
  simp [PyData.canLay0, PyData.canLayAll0]
theorem dep_P (p : Int × Int) : (dP p).depth ≤ 1 := by
  unfold dP
  simp [PyData.depth, PyData.depthAll]
theorem shaped_P (p : Int × Int) : SeqAt.shaped (dP p) = true := shaped_of (lay_P p) (dep_P p) (by decide)

section
variable {X : Cx}
theorem call_sortedI : CallR X (.builtin "sorted") (fun xs H Q => ∃ (p : Addr) (ns : List Int), xs = [.ref p] ∧ SqL X.K H p (ns.map V.int) ∧ ns.length < 64 ∧ ∀ (l : Addr) (ms : List Int), H l = none → ms.Perm ns → ms.Pairwise (· ≤ ·) → Q (.ref l) (upd H l (.lst (ms.map V.int)))) := by
  intro pins s σ H xs us Q I r h
  obtain ⟨p, ns, rfl, hq, hz, q⟩ := h
  obtain ⟨u, rfl, rx⟩ := vals1 r
  cases rx
  obtain ⟨its, rv, pl, hn⟩ := I.list hq
  have hI := intsAre_of rv
  have hlen := rv.length
  rw [List.length_map] at hlen hn
  refine sorted_ints pl.isList hI (by omega) fun out ms h1 h2 h3 => ?_
  obtain ⟨e, he⟩ := sortedAll_at s.heap its out
  have fr : H (s.heap.objs.size + 1) = none := I.hok.fresh (Nat.le_succ _)
  have hm : ms.length = ns.length := h2.length_eq
  refine ⟨.ref (s.heap.objs.size + 1), _, I.laid (t' := s.toks) (fun b o z => sortedAll_old z) (Nat.le_succ _) ?_, rfl, q _ ms fr h2 h3⟩
  refine ⟨by rw [List.length_map]; omega, out.toList, e, vals_ints h1, ?_⟩
  rw [Array.toArray_toList]
  exact he

theorem spl_one {M : Model} {A : Around} {E : Value → Shared → Prop} {s : Shared} {env : Env} {e : Expr} {pos : Pos} {Q : List Value → Shared → Prop} (hs : starEach [e] env = [(false, eval e env)]) (h : wpAny M A (eval e env) (fun v s1 => Q [v] s1) E s) :
    wpAny M A (spliced (backTo pos (starEach [e] env))) Q E s := by
  rw [hs]
  show wpAny _ _ (spliced ((false, eval e env) :: [])) _ _ s
  exact Calls.spliced_cons (thn h fun v s1 q => Calls.spliced_nil q)
def tLRange (te : TE) : TE := fun σ H Q => te σ H fun x H1 => ∃ n : Nat, x = .int n ∧ n ≤ 1000 ∧ ∀ l, H1 l = none → Q (.ref l) (upd H1 l (.lst ((List.range n).map fun (i : Nat) => V.int i)))
theorem pe_listRange {e : Expr} {te : TE} {p1 p2 q1 q2 : Pos} (hg : Gl X "list") (hm : X.mg "list" = none) (hg2 : Gl X "range") (hm2 : X.mg "range" = none) (hc : X.calm = true) (he : PE X e te)
    (hs : starEach [e] X.env = [(false, eval e X.env)] := by rfl) (hs2 : starEach [.Call (.Name "range" p2) [e] [] q2] X.env = [(false, eval (.Call (.Name "range" p2) [e] [] q2) X.env)] := by rfl) :
    PE X (.Call (.Name "list" p1) [.Call (.Name "range" p2) [e] [] q2] [] q1) (tLRange te) := by
  intro pins s σ H Q I h
  refine wpAny_Call_Name_kw (ld_blt I hg hm boot_list ?_)
  refine PyProof.Rows.callWith_type1 (spl_one hs2 ?_) hs2 rfl
  refine Call_ (ld_blt I hg2 hm2 boot_range (PyProof.Rows.callWith_type1 (spl_one hs (thn (he pins s σ H _ I h) fun u s1 ⟨x, H1, I1, r1, q⟩ => ?_)) hs rfl))
  obtain ⟨n, rfl, hn, q⟩ := q
  obtain ⟨t, rfl⟩ := (show ∃ t, u = Value.int n t from r1)
  refine call_range_1 ?_
  have I2 : Inv X pins σ H1 { s1 with heap := s1.heap.push { cls := .type "range", data := .fields #[.int 0 s1.toks, .int n t, .int 1 (s1.toks + 1)] }, toks := s1.toks + 1 + 1 } := I1.kept fun b o z => Heap.get?_push_of_some _ z
  refine call_list_range (n := n) (I2.ok.hd hc) (IsRange.new ..) (small_one (by omega) (by omega) (by omega) (by omega)) (by rw [rangeSize_one]; split <;> omega) (by omega) fun h' tk acc c' hk hS hacc => ?_
  refine ⟨.ref _, _, I2.laid (t' := tk) hk (Nat.le_refl _) ?_, rfl, q _ (I2.hok.fresh (Nat.le_refl _))⟩
  refine ⟨by rw [List.length_map, List.length_range]; exact Nat.le_trans hn (by decide), acc.toList, c', ?_, by rw [Array.toArray_toList]; exact hS⟩
  obtain ⟨a1, a2⟩ := hacc
  have key : ∀ (k : Nat) (l : List Value), l.length = k → (∀ j v, l[j]? = some v → ∃ t, v = Value.int ((0 : Int) + (j : Nat) * 1) t) → Vals ((List.range k).map fun (i : Nat) => V.int i) l := by
    intro k
    induction k with
    | zero => intro l hl _; cases l with
      | nil => exact .nil
      | cons _ _ => cases hl
    | succ k ih =>
      intro l hl hj
      have hne : l ≠ [] := by intro z; rw [z] at hl; cases hl
      have hd : l = l.dropLast ++ [l.getLast hne] := (List.dropLast_concat_getLast hne).symm
      have hlen : l.dropLast.length = k := by rw [List.length_dropLast]; omega
      rw [List.range_succ, List.map_append, hd]
      refine Vals.append (ih l.dropLast hlen fun j v hv => hj j v ?_) (.cons ?_ .nil)
      · rw [hd, List.getElem?_append_left (List.getElem?_eq_some_iff.mp hv).1]; exact hv
      · obtain ⟨t, e⟩ := hj k (l.getLast hne) (by
          have z := List.getLast?_eq_getElem? (l := l)
          rw [List.getLast?_eq_some_getLast hne] at z
          rw [show k = l.length - 1 by omega]
          exact z.symm)
        exact ⟨t, by rw [e]; simp⟩
  exact key n acc.toList (by simpa using a1) fun j v hv => a2 j v (by simpa using hv)
end
end L2
namespace L2
open PySem PySem.Spec PyProof.Rows

section
variable {prog : Program} {w : World} {A : Around} {E : Value → Shared → Prop} {s : Shared}
theorem rv_nolen : typeLookup (.type "list_reverseiterator") "__len__" = pure none := by rw [typeLookup_type, builtinLookup_eq_fast]; kernel_rfl
theorem rv_hint : typeLookup (.type "list_reverseiterator") "__length_hint__" = pure (some (.builtin "list_reverseiterator.__length_hint__")) := by rw [typeLookup_type, builtinLookup_eq_fast]; kernel_rfl
theorem rv_room {it l : Addr} {i : Int} {Q : Bool → Shared → Prop} (hT : s.heap.IsRevIter it l i) (h : Q false s) : wpAny (model prog w) A (Builtin.List.listLengthHint (.ref it)) Q E s := by
  unfold Builtin.List.listLengthHint
  refine wpAny_bind (wpAny_specialOf hT.typeIs rv_nolen ?_)
  show wpAny _ _ (specialOf (Value.ref it) (Str.ofString "__length_hint__") >>= _) _ _ _
  refine wpAny_bind (wpAny_specialOf hT.typeIs rv_hint ?_)
  generalize hid : ("list_reverseiterator.__length_hint__" : String) = id0
  wp_delta
  rw [show splitId id0 = some ("list_reverseiterator", "__length_hint__") from by subst hid; decide +kernel]
  subst hid
  refine wpAny_bind (wpAny_isInstance (b := true) hT.typeIs (by rw [isSubtype_type]; kernel_rfl) ?_)
  exact wpAny_pure h
theorem rv_list {it l : Addr} {items : Array Value} {Q : Value → Shared → Prop} (hh : A.handled = none) (hit : s.heap.IsRevIter it l ((items.size : Int) - 1)) (hl : s.heap.IsList l items) (hz : items.size ≤ sizeLine)
    (hQ : ∀ h' tk acc c, (∀ b o, b ≠ it → s.heap.get? b = some o → h'.get? b = some o) → h'.get? s.heap.objs.size = some { cls := .type "list", dict := none, data := .seq acc c, slots := #[] } →
      ItemsOf (fun i v => items[items.size - 1 - i]? = some v) acc items.size → Q (.ref s.heap.objs.size) { s with heap := h', toks := tk }) : wpAny (model prog w) A (call (.type "list") [.ref it]) Q E s := by
  have ilt : it < s.heap.objs.size := by obtain ⟨_, q, _⟩ := hit; exact Heap.lt_size q
  have llt : l < s.heap.objs.size := by obtain ⟨_, q, _⟩ := hl; exact Heap.lt_size q
  have hne : l ≠ it := fun z => by
    obtain ⟨o, q, c, _⟩ := hit
    obtain ⟨o', q', c', _⟩ := hl
    rw [z, q] at q'
    have e : o = o' := Option.some.inj q'
    rw [e, c'] at c
    exact absurd (Value.type.inj c) (by decide)
  refine callType_codes (Q₁ := fun obj s₁ => obj = .ref s.heap.objs.size ∧ s₁ = { s with heap := s.heap.push { cls := .type "list", data := .seq #[] } }) F.called_list (F.typeCall_list_1 _) F.entry_list_init
    (code_list_new _ ⟨rfl, rfl⟩) fun obj s₁ h₁ => ?_
  obtain ⟨rfl, rfl⟩ := h₁
  have hS : (s.heap.push { cls := .type "list", data := .seq #[] }).get? s.heap.objs.size = some { cls := .type "list", data := .seq #[] } := Heap.get?_push_size _ rfl
  refine ⟨⟨_, hS, rfl⟩, F.args_list_init_2 _ _, ?_⟩
  show wpAny _ _ (do let old ← Builtin.List.listItems (.ref s.heap.objs.size); Builtin.List.listUpdate (.ref s.heap.objs.size) (fun _ => #[]); letGo old.toList.reverse; Builtin.List.listExtendWith (.ref s.heap.objs.size) (.ref it) .none) _ _ _
  refine wpAny_bind ?_
  unfold Builtin.List.listItems
  refine wpAny_bind (wpAny_seqItems hS rfl (wpAny_pure ?_))
  show wpAny _ _ (updateSeq s.heap.objs.size (fun _ => #[]) >>= fun _ => letGo (#[] : Array Value).toList.reverse >>= fun _ => Builtin.List.listExtendWith (.ref s.heap.objs.size) (.ref it) .none) _ _ _
  refine wpAny_bind (wpAny_updateSeq hS rfl ?_)
  have hS₂ := Heap.get?_update_self (Obj.mapSeq (fun _ => (#[] : Array Value))) hS rfl
  refine wpAny_bind (wpAny_letGo ?_)
  generalize hH : (s.heap.push { cls := .type "list", data := .seq #[] }).update s.heap.objs.size (Obj.mapSeq (fun _ => (#[] : Array Value))) = h2 at hS₂
  have k2 : ∀ b o, s.heap.get? b = some o → h2.get? b = some o := fun b o e => by
    rw [← hH]
    exact (Heap.get?_update_other _ _ (Nat.ne_of_gt (Heap.lt_size e))).trans (Heap.get?_push_of_some _ e)
  have hit2 : h2.IsRevIter it l ((items.size : Int) - 1) := hit.at fun o e => k2 it o e
  have hl2 : h2.IsList l items := hl.at fun o e => k2 l o e
  unfold Builtin.List.listExtendWith
  refine wpAny_bind (wpAny_typeOf (s := { s with heap := h2 }) hit2.typeIs ?_)
  have h1 : Builtin.List.listSameRef (.ref s.heap.objs.size) (.ref it) = false := by simp [Builtin.List.listSameRef, Nat.ne_of_gt ilt]
  rw [if_neg (by rw [h1]; decide)]
  refine wpAny_bind (wpAny_pyIter_revIter (s := { s with heap := h2 }) hit2 ?_)
  refine wpAny_bind (wpAny_holding (rv_room (s := { s with heap := h2 }) hit2 ?_))
  rw [if_neg (by decide)]
  have W := Walks.listRev (prog := prog) (w := w) (A := A.in1.in1) hh it l hne items
  have hSf : s.heap.objs.size ∉ [it, l] := by simp only [List.mem_cons, List.not_mem_nil, or_false, not_or]; exact ⟨Nat.ne_of_gt ilt, Nat.ne_of_gt llt⟩
  refine wpAny_pure ⟨plainId_quiet F.plain_extend_loop _, codeAny_extend_loopS (A := A.in1) W.toS hz _ hSf _ items.size 0 { s with heap := h2 } #[] _ rfl (Nat.zero_le _) ⟨Nat.zero_le _, by simpa using hit2, hl2⟩ hS₂ (ItemsOf.nil _) fun s' acc c hm hS' hacc => ?_⟩
  rw [Moved.eq_with hm]
  refine ⟨rfl, hQ s'.heap s'.toks acc c (fun b o hb e => hm.heap b o (fun hmem => ?_) (k2 b o e)) hS' hacc⟩
  rcases List.mem_cons.mp hmem with z | hmem
  · exact absurd (Heap.lt_size e) (by rw [z]; exact Nat.lt_irrefl _)
  · exact hb (List.mem_singleton.mp hmem)
end
theorem vals_rev : ∀ {xs : List V} {its : List Value} {l : List Value}, Vals xs its → l.length = its.length → (∀ j v, l[j]? = some v → its[its.length - 1 - j]? = some v) → Vals xs.reverse l := by
  intro xs its l h hl hj
  have e : l = its.reverse := by
    refine List.ext_getElem? fun j => ?_
    by_cases hlt : j < l.length
    · have q := hj j l[j] (by simp [hlt])
      rw [List.getElem?_reverse (by omega), q]
      simp [hlt]
    · rw [List.getElem?_eq_none (by omega), List.getElem?_eq_none (by rw [List.length_reverse]; omega)]
  rw [e]
  exact h.reverse
section
variable {X : Cx}
def tLRev (K : PySem.W.Frag) (te : TE) : TE := fun σ H Q => te σ H fun x H1 => ∃ a xs, x = .ref a ∧ SqL K H1 a xs ∧ ∀ l, H1 l = none → Q (.ref l) (upd H1 l (.lst xs.reverse))
theorem pe_listRev {e : Expr} {te : TE} {p1 p2 q1 q2 : Pos} (hg : Gl X "list") (hm : X.mg "list" = none) (hg2 : Gl X "reversed") (hm2 : X.mg "reversed" = none) (hc : X.calm = true) (he : PE X e te)
    (hs : starEach [e] X.env = [(false, eval e X.env)] := by rfl) (hs2 : starEach [.Call (.Name "reversed" p2) [e] [] q2] X.env = [(false, eval (.Call (.Name "reversed" p2) [e] [] q2) X.env)] := by rfl) :
    PE X (.Call (.Name "list" p1) [.Call (.Name "reversed" p2) [e] [] q2] [] q1) (tLRev X.K te) := by
  intro pins s σ H Q I h
  refine wpAny_Call_Name_kw (ld_blt I hg hm PyProof.Rows.boot_list ?_)
  refine PyProof.Rows.callWith_type1 (spl_one hs2 ?_) hs2 rfl
  refine Call_ (ld_blt I hg2 hm2 boot_reversed (PyProof.Rows.callWith_type1 (spl_one hs (thn (he pins s σ H _ I h) fun u s1 ⟨x, H1, I1, r1, q⟩ => ?_)) hs rfl))
  obtain ⟨a, xs, rfl, hq, q⟩ := q
  cases (show u = Value.ref a from r1)
  obtain ⟨its, rv, pl, hz⟩ := I1.list hq
  have hlen := rv.length
  refine call_reversed_list pl.isList ?_
  have I2 : Inv X pins σ H1 { s1 with heap := s1.heap.push (revObj a ((its.toArray.size : Int) - 1)), toks := s1.toks } := I1.kept fun b o z => Heap.get?_push_of_some _ z
  have fr : H1 s1.heap.objs.size = none := I1.hok.fresh (Nat.le_refl _)
  obtain ⟨_, g1, g2, g3, g4, g5⟩ := I1.fpOk (H' := H1) (Nat.le_refl _) fr
  refine rv_list (s := { s1 with heap := s1.heap.push (revObj a ((its.toArray.size : Int) - 1)) }) (I2.ok.hd hc) ⟨_, Heap.get?_push_size _ rfl, rfl, rfl⟩ (pl.isList.at fun o z => Heap.get?_push_of_some _ z) (by rw [List.size_toArray]; omega) fun h' tk acc c kk hS hacc => ?_
  obtain ⟨a1, a2⟩ := hacc
  have sz : (s1.heap.push (revObj a ((its.toArray.size : Int) - 1))).objs.size = s1.heap.objs.size + 1 := Heap.size_push ..
  have fr2 : H1 (s1.heap.push (revObj a ((its.toArray.size : Int) - 1))).objs.size = none := I2.hok.fresh (Nat.le_refl _)
  refine ⟨.ref _, upd H1 _ (.lst xs.reverse), ?_, rfl, q _ fr2⟩
  have hv : Vals xs.reverse acc.toList := vals_rev rv (by rw [Array.length_toList, a1, List.size_toArray]) fun j v hj => by
    have := a2 j v (by rw [← Array.getElem?_toList]; exact hj)
    simpa using this
  refine I2.turnLay (t' := tk) (ch := [s1.heap.objs.size]) (fun b hb => ?_) (fun b o hb e => kk b o (fun z => hb (by simp [z])) e) (Nat.le_refl _) ⟨by rw [List.length_reverse]; exact hz, acc.toList, c, hv, by rw [Array.toArray_toList]; exact hS⟩
  have e' : b = s1.heap.objs.size := by simpa using hb
  subst e'
  exact ⟨fr, g1, g2, g3, g4, g5⟩
end
end L2
namespace L2
open PySem PySem.Spec PyProof.Rows
section
variable {X : Cx}
theorem call_isinst : CallR X (.builtin "isinstance") (fun xs H Q => ∃ x n t b, xs = [x, .ty n] ∧ TyOf X.K H x t ∧ PySem.W.kitOne X.K t (.type n) = some b ∧ Q (.bl b) H) := by
  intro pins s σ H xs us Q I r h
  obtain ⟨x, n, t, b, rfl, ty, e, q⟩ := h
  obtain ⟨u, v, rfl, ru, rv⟩ := vals2 r
  cases (show v = Value.type n from rv)
  exact isinst_ok I ru ty e fun tk => ⟨.bl b, H, I.tok tk, rfl, q⟩
theorem kit_same {K : PySem.W.Frag} {n : String} : PySem.W.kitOne K (.type n) (.type n) = some true := by
  unfold PySem.W.kitOne
  rw [if_pos (by simp)]
theorem kit_no {K : PySem.W.Frag} {n m : String} (h : ((Value.type n == Value.type m) = false ∧ PySem.W.kitMeta m = true ∧ (PySem.fastBuiltinMro n).map (·.contains (Value.type m)) = some false)) : PySem.W.kitOne K (.type n) (.type m) = some false := by
  obtain ⟨h1, h2, h3⟩ := h
  unfold PySem.W.kitOne PySem.W.kitCls
  rw [if_neg (by rw [h1]; decide)]
  show (if PySem.W.kitMeta m = true then PySem.W.subIn K (.type n) (.type m) else none) = some false
  rw [if_pos h2]
  exact h3
theorem kit_int_bool {K : PySem.W.Frag} : PySem.W.kitOne K (.type "int") (.type "bool") = some false := kit_no (by decide +kernel)

theorem call_anyB (hc : X.calm = true) : CallR X (.builtin "any") (fun xs H Q => ∃ (p : Addr) (bs : List Bool), xs = [.ref p] ∧ SqL X.K H p (bs.map V.bl) ∧ Q (.bl (bs.any id)) H) := by
  intro pins s σ H xs us Q I r h
  obtain ⟨p, bs, rfl, hq, q⟩ := h
  obtain ⟨u, rfl, rx⟩ := vals1 r
  cases (show u = Value.ref p from rx)
  obtain ⟨its, rv, pl, hz⟩ := I.list hq
  have hlen := rv.length
  rw [List.length_map] at hlen
  refine call_any_walk (wpAny_pyIter_list pl.isList ?_)
  have plt : p < s.heap.objs.size := by obtain ⟨_, _, e, _⟩ := pl; exact Heap.lt_size e
  have key : ∀ i v, its.toArray[i]? = some v → v = Value.bool (bs.getD i false) := fun i v hv => by
    have hv' : its[i]? = some v := by simpa using hv
    have hi : i < bs.length := by rw [hlen]; exact (List.getElem?_eq_some_iff.mp hv').1
    obtain ⟨u, hu, ru⟩ := rv.get (i := i) (x := V.bl bs[i]) (by simp [hi])
    rw [hv'] at hu
    cases hu
    rw [show v = Value.bool bs[i] from ru]
    simp [hi]
  refine ⟨s.heap.objs.size, _, _, _, _, _, fun i => bs.getD i false, rfl, Walks.list (A := X.A.in1) (I.ok.hd hc) s.heap.objs.size p (Nat.ne_of_lt plt) its.toArray, ⟨⟨_, Heap.get?_push_size _ rfl, rfl, rfl⟩, pl.isList.at fun o e => Heap.get?_push_of_some _ e⟩, ?_, fun h' tk kk => ?_⟩
  · intro i v s' Q' E' hv q'
    rw [key i v hv]
    exact wpAny_pure q'
  · have I2 : Inv X pins σ H { s with heap := h', toks := tk } := by
      have I1 : Inv X pins σ H { s with heap := s.heap.push { cls := .type "list_iterator", data := .fields #[.ref p, .int 0 0] }, toks := s.toks } := I.kept fun b o e => Heap.get?_push_of_some _ e
      obtain ⟨g0, g1, g2, g3, g4, g5⟩ := I.fpOk (H' := H) (Nat.le_refl _) (I.hok.fresh (Nat.le_refl _))
      have I2 := I1.turned (h' := h') (t' := tk) (it := s.heap.objs.size) (fun b o hb e => kk b o (by simpa using hb) e) g0 g1 g3 g4 g5
      exact I2
    refine ⟨.bl _, H, I2, rfl, ?_⟩
    have e : (List.range its.toArray.size).any (fun i => bs.getD i false) = bs.any id := by
      rw [List.size_toArray, ← hlen]
      rw [Bool.eq_iff_iff, List.any_eq_true, List.any_eq_true]
      constructor
      · rintro ⟨i, hi, hb⟩
        have hi : i < bs.length := List.mem_range.mp hi
        exact ⟨bs[i], List.getElem_mem hi, by simpa [hi] using hb⟩
      · rintro ⟨b, hb, hb'⟩
        obtain ⟨i, hi, rfl⟩ := List.mem_iff_getElem.mp hb
        exact ⟨i, List.mem_range.mpr hi, by simpa [hi] using hb'⟩
    rw [e]
    exact q
end
end L2
namespace L2
open PySem PySem.Spec PyProof.Rows
section
variable {X : Cx} {K : PySem.W.Frag}
theorem k_in (h : X.K = K) : OpR X (compareOp .In) (rIn K false) := h ▸ op_in_seq
theorem k_notIn (h : X.K = K) : OpR X (compareOp .NotIn) (rIn K true) := h ▸ op_notIn_seq
theorem k_ixL (h : X.K = K) : IxR X (rIxL K) := h ▸ ix_list
theorem k_ixT (h : X.K = K) : IxR X (rIxT K) := h ▸ ix_tup
theorem k_slL (h : X.K = K) : SlR X (rSlL K) := h ▸ sl_list
theorem k_eqD (h : X.K = K) (hu : X.A.units + 64 < cLine) : OpR X (compareOp .Eq) (rEqD K false) := h ▸ op_eqD hu
theorem k_neD (h : X.K = K) (hu : X.A.units + 64 < cLine) : OpR X (compareOp .NotEq) (rEqD K true) := h ▸ op_neD hu
def rLen (K : PySem.W.Frag) : List V → Hp → VK → Prop := fun xs H Q => ∃ p ys, xs = [.ref p] ∧ (SqL K H p ys ∨ SqT K H p ys) ∧ Q (.int ys.length) H
theorem k_len (h : X.K = K) : CallR X (.builtin "len") (rLen K) := h ▸ call_len_seq
def rListOf (K : PySem.W.Frag) : List V → Hp → VK → Prop := fun xs H Q => ∃ p ys, xs = [.ref p] ∧ (SqL K H p ys ∨ SqT K H p ys) ∧ ∀ l, H l = none → Q (.ref l) (upd H l (.lst ys))
theorem k_listOf (h : X.K = K) : CallR X (.type "list") (rListOf K) := h ▸ call_list_of
def rSorted (K : PySem.W.Frag) : List V → Hp → VK → Prop := fun xs H Q => ∃ (p : Addr) (ns : List Int), xs = [.ref p] ∧ SqL K H p (ns.map V.int) ∧ ns.length < 64 ∧ ∀ (l : Addr) (ms : List Int), H l = none → ms.Perm ns → ms.Pairwise (· ≤ ·) → Q (.ref l) (upd H l (.lst (ms.map V.int)))
theorem k_sorted (h : X.K = K) : CallR X (.builtin "sorted") (rSorted K) := h ▸ call_sortedI
def rIsinst (K : PySem.W.Frag) : List V → Hp → VK → Prop := fun xs H Q => ∃ x n t b, xs = [x, .ty n] ∧ TyOf K H x t ∧ PySem.W.kitOne K t (.type n) = some b ∧ Q (.bl b) H
theorem k_isinst (h : X.K = K) : CallR X (.builtin "isinstance") (rIsinst K) := h ▸ call_isinst
def rAnyB (K : PySem.W.Frag) : List V → Hp → VK → Prop := fun xs H Q => ∃ (p : Addr) (bs : List Bool), xs = [.ref p] ∧ SqL K H p (bs.map V.bl) ∧ Q (.bl (bs.any id)) H
theorem k_any (h : X.K = K) (hc : X.calm = true) : CallR X (.builtin "any") (rAnyB K) := h ▸ call_anyB hc
theorem k_list {tg l : Expr} {tl : TE} (h : X.K = K) (hl : PE X l tl) : PI X tg l (iList K tl) := h ▸ pi_list hl
theorem k_seq {tg l : Expr} {tl : TE} (h : X.K = K) (hl : PE X l tl) : PI X tg l (iSeq K tl) := h ▸ pi_seq hl
end
end L2
namespace L2
open PySem PySem.Spec PyProof.Rows
theorem paired_set {α β : Type} {F : α → β → Prop} {a : α} {b : β} (h : F a b) : ∀ {l₁ : List α} {l₂ : List β} {i : Nat}, Paired F l₁ l₂ → Paired F (l₁.set i a) (l₂.set i b)
  | _, _, _, .nil => .nil
  | _, _, 0, .cons _ t => .cons h t
  | _, _, i + 1, .cons q t => .cons q (paired_set h t)
theorem paired_get {α β : Type} {F : α → β → Prop} : ∀ {l₁ : List α} {l₂ : List β} {i : Nat} {b : β}, Paired F l₁ l₂ → l₂[i]? = some b → ∃ a, l₁[i]? = some a ∧ F a b
  | _, _, _, _, .nil, e => by simp at e
  | _, _, 0, _, .cons r _, e => by simp at e; subst e; exact ⟨_, rfl, r⟩
  | _, _, i + 1, b, .cons _ t, e => by
    obtain ⟨a, h1, h2⟩ := paired_get (i := i) (b := b) t (by simpa using e)
    exact ⟨a, by simpa using h1, h2⟩
theorem paired_get1 {α β : Type} {F : α → β → Prop} : ∀ {l₁ : List α} {l₂ : List β} {i : Nat} {a : α}, Paired F l₁ l₂ → l₁[i]? = some a → ∃ b, l₂[i]? = some b ∧ F a b
  | _, _, _, _, .nil, e => by simp at e
  | _, _, 0, _, .cons r _, e => by simp at e; subst e; exact ⟨_, rfl, r⟩
  | _, _, i + 1, b, .cons _ t, e => by
    obtain ⟨a, h1, h2⟩ := paired_get1 (i := i) (a := b) t (by simpa using e)
    exact ⟨a, by simpa using h1, h2⟩
theorem paired_flip {α β : Type} {F : α → β → Prop} : ∀ {l₁ : List α} {l₂ : List β}, Paired F l₁ l₂ → Paired (fun b a => F a b) l₂ l₁
  | _, _, .nil => .nil
  | _, _, .cons h t => .cons h (paired_flip t)
theorem paired_map1 {α β γ : Type} {F : γ → β → Prop} {f : α → γ} : ∀ {l₁ : List α} {l₂ : List β}, Paired (fun a b => F (f a) b) l₁ l₂ → Paired F (l₁.map f) l₂
  | _, _, .nil => .nil
  | _, _, .cons h t => .cons h (paired_map1 t)
theorem cut_ints (os : List Int) (lo hi : Option Int) : ∃ cs : List Int, cutV (os.map V.int) lo hi = cs.map V.int ∧ (∀ b ∈ cs, b ∈ os) ∧ cs.length ≤ os.length := by
  unfold cutV
  refine ⟨(os.drop (HT.sIx (os.map V.int).length 0 lo)).take (HT.sIx (os.map V.int).length (os.map V.int).length hi - HT.sIx (os.map V.int).length 0 lo), ?_, fun b hb => List.mem_of_mem_drop (List.mem_of_mem_take hb), ?_⟩
  · rw [List.map_take, List.map_drop]
  · rw [List.length_take, List.length_drop]
    omega
theorem cut_ints1 (os : List Int) : ∃ cs : List Int, cutV (os.map V.int) none (some 1) = cs.map V.int ∧ (∀ b ∈ cs, b ∈ os) ∧ cs.length ≤ 1 := by
  unfold cutV
  refine ⟨(os.drop (HT.sIx (os.map V.int).length 0 none)).take (HT.sIx (os.map V.int).length (os.map V.int).length (some 1) - HT.sIx (os.map V.int).length 0 none), ?_, fun b hb => List.mem_of_mem_drop (List.mem_of_mem_take hb), ?_⟩
  · rw [List.map_take, List.map_drop]
  · rw [List.length_take]
    have := HT.sIx_nat (os.map V.int).length (os.map V.int).length 1
    have e : HT.sIx (os.map V.int).length (os.map V.int).length (some (1 : Int)) = min 1 (os.map V.int).length := this
    rw [e]
    omega
def WL (H : Hp) (lw : Addr) (ws : List (List Int)) : Prop := ∃ as : List Addr, H lw = some (.lst (as.map V.ref)) ∧ Paired (fun b w => H b = some (.lst (w.map V.int))) as ws
def WLx (H : Hp) (lw : Addr) (ws : List (List Int)) : Prop := ∃ as : List Addr, H lw = some (.lst (as.map V.ref)) ∧ Paired (fun b w => b ≠ lw ∧ H b = some (.lst (w.map V.int))) as ws
theorem WL.same {H H' : Hp} {lw : Addr} {ws : List (List Int)} (h : WL H lw ws) (s : Same H H') : WL H' lw ws := by
  obtain ⟨as, h1, h2⟩ := h
  exact ⟨as, s _ _ h1, Paired.mapP h2 fun b w e => s _ _ e⟩
theorem WL.dt {K : PySem.W.Frag} {H : Hp} {lw : Addr} {ws : List (List Int)} (h : WL H lw ws) : Dt K H (dII ws) (.ref lw) := by
  obtain ⟨as, h1, h2⟩ := h
  exact dt_II (SqL.of h1) (paired_flip (paired_map1 (Paired.mapP h2 fun b w e => ⟨b, rfl, SqL.of e⟩)))
theorem flat_ints : ∀ ns : List Int, (ns.map V.int).all flatV = true
  | [] => rfl
  | n :: r => by
    rw [List.map_cons, List.all_cons, flat_ints r]
    rfl
theorem inV_int (x : Int) : ∀ ns : List Int, inV (.int x) (ns.map V.int) = decide (x ∈ ns)
  | [] => by simp [inV]
  | n :: r => by
    have ih := inV_int x r
    unfold inV at ih ⊢
    rw [List.map_cons, List.any_cons, ih]
    have e : eqV (.int n) (.int x) = decide (n = x) := by
      first | rfl | (unfold eqV; simp) | (simp [eqV]; exact Bool.beq_eq_decide_eq _ _)
    rw [e]
    by_cases h : n = x
    · subst h; simp
    · have h' : ¬ x = n := fun q => h q.symm
      simp [h, h']
theorem WLx.wl {H : Hp} {lw : Addr} {ws : List (List Int)} (h : WLx H lw ws) : WL H lw ws := by
  obtain ⟨as, h1, h2⟩ := h
  exact ⟨as, h1, Paired.mapP h2 fun b w e => e.2⟩
theorem c_copy {K : PySem.W.Frag} {lw l2 : Addr} {ws : List (List Int)} {H : Hp} {Q : Hp → Prop} (hW : WL H lw ws) (hlen : ws.length ≤ 100) (f2 : H l2 = none) (q : ∀ H', Same H H' → WLx H' l2 ws → Q H') :
    cLoop (Itl K lw) l2 (gName 0) (fun _ H Q => Q true H) (tCB (rListOf K) (tCons (tVar 0) tNil)) [none] (upd H l2 (.lst [])) Q := by
  obtain ⟨as, hA, hP⟩ := hW
  have lenA : as.length = ws.length := Paired.length hP
  refine c_list (K := K) (a := lw) (xs := as.map V.ref) (fun i ys σ H' => ∃ u, σ = [u] ∧ Same H H' ∧ H' l2 = some (.lst ys) ∧ ∃ cs : List Addr, ys = cs.map V.ref ∧ Paired (fun c w => c ≠ l2 ∧ H' c = some (.lst (w.map V.int))) cs (ws.take i))
    ⟨none, rfl, Same.new f2, upd_same, [], rfl, .nil⟩ (fun i ys σ H' _ ⟨_, _, s5, _⟩ => SqL.of (s5 _ _ hA)) ?_ ?_
  · rintro i x ys σ H' hi ⟨u, rfl, s5, hL, cs, rfl, hC⟩
    rw [List.getElem?_map] at hi
    cases e : as[i]? with
    | none => rw [e] at hi; cases hi
    | some b =>
      rw [e] at hi
      obtain rfl : V.ref b = x := Option.some.inj hi
      obtain ⟨w', h1', h2'⟩ := paired_get1 hP e
      refine ⟨_, rfl, b, _, rfl, .inl (SqL.of (s5 _ _ h2')), fun c fc => ?_⟩
      have nl : l2 ≠ c := fun e => by rw [← e, hL] at fc; cases fc
      refine ⟨by rw [upd_ne nl]; exact hL, ?_, _, rfl, (s5.trans (Same.new fc)).put f2, upd_same, cs ++ [c], ?_, ?_⟩
      · rw [List.length_map, Paired.length hC]
        have := List.length_take_le' i ws
        exact small1000 (by omega)
      · rw [List.map_append]
        rfl
      · rw [List.take_add_one, h1']
        refine Paired.snoc (Paired.mapP hC fun d w ⟨n1, e⟩ => ⟨n1, ?_⟩) ⟨Ne.symm nl, ?_⟩
        · have nc : d ≠ c := fun q => by rw [q, fc] at e; cases e
          rw [upd_ne n1, upd_ne nc]
          exact e
        · rw [upd_ne (Ne.symm nl)]
          exact upd_same
  · rintro ys σ H' ⟨u, rfl, s5, hL, cs, rfl, hC⟩
    rw [List.length_map, lenA, List.take_length] at hC
    exact q H' s5 ⟨cs, hL, hC⟩
end L2
namespace L2
open PySem PySem.Spec PyProof.Rows

structure TDef (K : PySem.W.Frag) (mg : Str → Option Value) (x : Str) (st : Stmt) (ps : List Str) : Prop where
  ex : ∃ f fd, Fun K x x st f fd ∧ mg x = some (.ref f) ∧ Binds K fd ps []
structure Cal (P : Program) (w : World) (K : PySem.W.Frag) (mg : Str → Option Value) (base : Heap) (k : Nat) (x : Str) (ps : List Str) (sp : Sp) : Prop where
  ex : ∃ f fd, FnOk P w K mg base CX0 k f fd ps sp ∧ mg x = some (.ref f) ∧ PySem.W.keepIn K (.ref f) = true ∧ Binds K fd ps []
section
variable {P : Program} {w : World} {K : PySem.W.Frag} {mg : Str → Option Value} {base : Heap}
theorem TDef.ok {x : Str} {st : Stmt} {N ps : List Str} {k : Nat} {sp : Sp} (D : TDef K mg x st ps) (S : FnScope N ps (defScope st)) (len : ∀ vs H Q E, sp vs H Q E → vs.length = ps.length)
    (hbody : ∀ (f : Addr) (cdv : Value) (A : Around) (outer : List Env) (s : Shared) (H : Hp) (vs : List V) (Q : VK) (E : XK), Room k (A.deeper (envOfC x (defScope st) s.heap.objs.size f cdv)) → sp vs H Q E →
      ∃ t, PSs (cxOf CX0 P w K mg base N x (defScope st) f cdv A outer s H E).nox (defBody st) t ∧ t { nx := fun _ H' => Q .non H', rt := Q } (start N vs) H) : Cal P w K mg base (k + 1) x ps sp := by
  obtain ⟨f, fd, F, hm, hb⟩ := D.ex
  exact ⟨f, fd, F.ok S len (hbody f), hm, F.kp, hb⟩
theorem tdef_mk {x : Str} {st : Stmt} {ps : List Str} {f : Addr} {fd : FuncData} (F : Fun K x x st f fd) (hm : mg x = some (.ref f)) (hb : Binds K fd ps []) : TDef K mg x st ps := ⟨f, fd, F, hm, hb⟩
theorem pe_cal {X : Cx} {k : Nat} {x : Str} {ps : List Str} {sp : Sp} {p pos : Pos} {e : Expr} {es : List Expr} {t : TA} (C : Cal X.prog X.w X.K X.mg X.base k x ps sp) (hr : Room k X.A) (hg : Gl X x) (ha : PA X (e :: es) t)
    (hdb : (x == ("__debug__" : Str)) = false := by decide) (he : starEach (e :: es) X.env = (false, eval e X.env) :: starEach es X.env := by rfl) (hpl : (backTo pos (starEach es X.env)).any (·.1) = false := by rfl) :
    PE X (.Call (.Name x p) (e :: es) [] pos) (tCall sp [] E0 t) := by
  obtain ⟨f, fd, F, hm, hk, hb⟩ := C.ex
  exact pe_call F hr hg hm hk hb .nil pass0 ha hdb he hpl
end
theorem room64 {k : Nat} {A : Around} (r : Room k A) : A.units + 64 < cLine := r.units
def tBy (t : TS) : TS := fun D σ H => ∃ M : St → Hp → Prop, t { D with nx := M } σ H ∧ ∀ σ H, M σ H → D.nx σ H
theorem ps_by {X : Cx} {st : Stmt} {t : TS} (h : PS X st t) : PS X st (tBy t) := by
  intro pins s σ H D I hq
  obtain ⟨M, h1, h2⟩ := hq
  refine thn (h pins s σ H _ I h1) fun f s' q => ?_
  cases f with
  | next => obtain ⟨σ', H', I', q⟩ := q; exact ⟨σ', H', I', h2 _ _ q⟩
  | brk => exact q
  | cont => exact q
  | ret v => exact q
end L2

namespace L2
open PySem
def tabOf (vs : List Nat) (led : Bool) : SetTable :=
  { mask := if vs.length < 5 then 7 else 31, place := vs.toArray, dummies := #[], finger := 0, led := led, moves := if vs.length < 5 then 0 else 1, plain := true }
structure Ris (vs : List Nat) : Prop where
  lt : ∀ v ∈ vs, v < 8
  up : vs.Pairwise (· < ·)
theorem Ris.nil : Ris [] := ⟨fun _ h => absurd h List.not_mem_nil, .nil⟩
theorem ris_len : ∀ {vs : List Nat} {n m : Nat}, vs.Pairwise (· < ·) → (∀ v ∈ vs, n ≤ v ∧ v < m) → vs.length ≤ m - n
  | [], _, _, _, _ => by simp
  | x :: r, n, m, h, hb => by
    rw [List.pairwise_cons] at h
    have hx := hb x List.mem_cons_self
    have ih := ris_len (vs := r) (n := x + 1) (m := m) h.2 fun v hv => ⟨h.1 v hv, (hb v (List.mem_cons_of_mem _ hv)).2⟩
    simp only [List.length_cons]
    omega
theorem Ris.len {vs : List Nat} (h : Ris vs) : vs.length ≤ 8 := ris_len (n := 0) (m := 8) h.up fun v hv => ⟨Nat.zero_le _, h.lt v hv⟩
theorem Ris.at {vs : List Nat} (h : vs.Pairwise (· < ·)) {i k x y : Nat} (hik : i < k) (hx : vs[i]? = some x) (hy : vs[k]? = some y) : x < y := by
  obtain ⟨h1, rfl⟩ := List.getElem?_eq_some_iff.mp hx
  obtain ⟨h2, rfl⟩ := List.getElem?_eq_some_iff.mp hy
  exact List.pairwise_iff_getElem.mp h i k h1 h2 hik
theorem below_go (vs : List Nat) (j : Nat) (hs : vs.Pairwise (· < ·)) : ∀ fuel lo hi, hi - lo ≤ fuel → hi ≤ vs.length → lo ≤ hi →
    (∀ i x, i < lo → vs[i]? = some x → x < j) → (∀ i x, hi ≤ i → vs[i]? = some x → j ≤ x) →
    (∀ i x, i < SetTable.below.go vs.toArray j fuel lo hi → vs[i]? = some x → x < j) ∧ (∀ i x, SetTable.below.go vs.toArray j fuel lo hi ≤ i → vs[i]? = some x → j ≤ x) ∧ SetTable.below.go vs.toArray j fuel lo hi ≤ vs.length := by
  intro fuel
  induction fuel with
  | zero =>
    intro lo hi h1 h2 h3 h4 h5
    have e : lo = hi := by omega
    subst e
    exact ⟨h4, h5, h2⟩
  | succ fuel ih =>
    intro lo hi h1 h2 h3 h4 h5
    have eg : SetTable.below.go vs.toArray j (fuel + 1) lo hi = if lo < hi then (if vs.toArray.getD ((lo + hi) / 2) j < j then SetTable.below.go vs.toArray j fuel ((lo + hi) / 2 + 1) hi else SetTable.below.go vs.toArray j fuel lo ((lo + hi) / 2)) else lo := rfl
    rw [eg]
    by_cases hlt : lo < hi
    · rw [if_pos hlt]
      have hm : (lo + hi) / 2 < vs.length := by omega
      have e : vs.toArray.getD ((lo + hi) / 2) j = vs[(lo + hi) / 2] := by
        simp [Array.getD, hm]
      have em : vs[(lo + hi) / 2]? = some vs[(lo + hi) / 2] := List.getElem?_eq_getElem hm
      rw [e]
      by_cases hc : vs[(lo + hi) / 2] < j
      · rw [if_pos hc]
        refine ih ((lo + hi) / 2 + 1) hi (by omega) h2 (by omega) (fun i x hi' hx => ?_) h5
        by_cases z : i = (lo + hi) / 2
        · subst z
          rw [em] at hx
          cases hx
          exact hc
        · exact Nat.lt_trans (Ris.at hs (by omega) hx em) hc
      · rw [if_neg hc]
        refine ih lo ((lo + hi) / 2) (by omega) (by omega) (by omega) h4 (fun i x hi' hx => ?_)
        by_cases z : i = (lo + hi) / 2
        · subst z
          rw [em] at hx
          cases hx
          omega
        · have := Ris.at hs (i := (lo + hi) / 2) (k := i) (by omega) em hx
          omega
    · rw [if_neg hlt]
      have e : lo = hi := by omega
      subst e
      exact ⟨h4, h5, h2⟩
theorem below_ok {vs : List Nat} (j : Nat) (hs : vs.Pairwise (· < ·)) :
    (∀ i x, i < SetTable.below vs.toArray j → vs[i]? = some x → x < j) ∧ (∀ i x, SetTable.below vs.toArray j ≤ i → vs[i]? = some x → j ≤ x) ∧ SetTable.below vs.toArray j ≤ vs.length := by
  unfold SetTable.below
  rw [List.size_toArray]
  exact below_go vs j hs vs.length 0 vs.length (by omega) (Nat.le_refl _) (Nat.zero_le _) (fun i x h => absurd h (Nat.not_lt_zero _)) (fun i x h hx => by
    rw [List.getElem?_eq_none h] at hx
    cases hx)
def insOf (vs : List Nat) (v : Nat) : List Nat := vs.take (SetTable.below vs.toArray v) ++ v :: vs.drop (SetTable.below vs.toArray v)
theorem ins_len (vs : List Nat) (v : Nat) : (insOf vs v).length = vs.length + 1 := by
  unfold insOf
  rw [List.length_append, List.length_cons, List.length_take, List.length_drop]
  omega
theorem ins_mem {vs : List Nat} {v x : Nat} : x ∈ insOf vs v ↔ x ∈ vs ∨ x = v := by
  unfold insOf
  rw [List.mem_append, List.mem_cons]
  constructor
  · rintro (h | h | h)
    · exact .inl (List.mem_of_mem_take h)
    · exact .inr h
    · exact .inl (List.mem_of_mem_drop h)
  · rintro (h | h)
    · rw [← List.take_append_drop (SetTable.below vs.toArray v) vs, List.mem_append] at h
      exact h.elim .inl fun z => .inr (.inr z)
    · exact .inr (.inl h)
theorem Ris.ins {vs : List Nat} {v : Nat} (h : Ris vs) (hv : v < 8) (hn : v ∉ vs) : Ris (insOf vs v) := by
  obtain ⟨b1, b2, b3⟩ := below_ok v h.up
  have c1 : ∀ x ∈ vs.take (SetTable.below vs.toArray v), x < v := fun x hx => by
    obtain ⟨i, hi, e⟩ := List.mem_iff_getElem.mp hx
    rw [List.length_take] at hi
    rw [List.getElem_take] at e
    exact b1 i x (by omega) (by rw [← e]; exact List.getElem?_eq_getElem (by omega))
  have c2 : ∀ x ∈ vs.drop (SetTable.below vs.toArray v), v < x := fun x hx => by
    obtain ⟨i, hi, e⟩ := List.mem_iff_getElem.mp hx
    rw [List.length_drop] at hi
    rw [List.getElem_drop] at e
    have := b2 (SetTable.below vs.toArray v + i) x (by omega) (by rw [← e]; exact List.getElem?_eq_getElem (by omega))
    have hne : x ≠ v := fun z => hn (z ▸ List.mem_of_mem_drop hx)
    omega
  refine ⟨fun x hx => ?_, ?_⟩
  · rcases ins_mem.mp hx with z | z
    · exact h.lt x z
    · omega
  · unfold insOf
    rw [List.pairwise_append]
    refine ⟨h.up.sublist (List.take_sublist _ _), ?_, fun x hx y hy => ?_⟩
    · rw [List.pairwise_cons]
      exact ⟨c2, h.up.sublist (List.drop_sublist _ _)⟩
    · rcases List.mem_cons.mp hy with z | z
      · rw [z]; exact c1 x hx
      · exact Nat.lt_trans (c1 x hx) (c2 y z)
theorem tab_bits {v : Nat} (hv : v < 8) : SetTable.bits (v : Int) = v := by
  unfold SetTable.bits
  have h0 : (0 : Int) ≤ (v : Int) := by omega
  have h1 : (v : Int) < (2 ^ 64 : Int) := Int.lt_trans (by omega : (v : Int) < 8) (by decide)
  rw [Int.emod_eq_of_lt h0 h1]
  exact Int.toNat_natCast v
theorem slot_empty {vs : List Nat} {led : Bool} {v : Nat} (hn : v ∉ vs) : (tabOf vs led).slot v = .empty := by
  unfold SetTable.slot
  have e1 : ((tabOf vs led).place[SetTable.below (tabOf vs led).place v]? == some v) = false := by
    show (vs.toArray[SetTable.below vs.toArray v]? == some v) = false
    rw [List.getElem?_toArray]
    cases q : vs[SetTable.below vs.toArray v]? with
    | none => rfl
    | some x =>
      have : x ∈ vs := List.mem_of_getElem? q
      have hne : x ≠ v := fun z => hn (z ▸ this)
      simpa using hne
  have e2 : SetTable.has (tabOf vs led).dummies v = false := by
    show SetTable.has #[] v = false
    unfold SetTable.has
    simp
  simp only [e1, e2]
  rfl
theorem free_tab {vs : List Nat} {led : Bool} {v : Nat} (hv : v < 8) (hn : v ∉ vs) : (tabOf vs led).freeSlot (v : Int) = some (v, false) := by
  have hm : ∃ m, (tabOf vs led).mask = m ∧ 7 ≤ m ∧ v % (m + 1) = v := by
    refine ⟨_, rfl, ?_, ?_⟩
    · show 7 ≤ if vs.length < 5 then 7 else 31
      split <;> omega
    · show v % ((if vs.length < 5 then 7 else 31) + 1) = v
      split <;> omega
  obtain ⟨m, em, h7, hmod⟩ := hm
  have ep : ((tabOf vs led).probeStart (v : Int)).j = v ∧ ((tabOf vs led).probeStart (v : Int)).dummy = none := by
    unfold SetTable.probeStart
    rw [tab_bits hv, em]
    exact ⟨hmod, rfl⟩
  have eq : (tabOf vs led).probe (fun _ => (v : Int) + 1) (v : Int) ((tabOf vs led).probeStart (v : Int)) = some (.empty v none) := by
    unfold SetTable.probe
    have ef : 10 * SetTable.turns (tabOf vs led).mask = (10 * SetTable.turns (tabOf vs led).mask - 1) + 1 := by
      unfold SetTable.turns
      omega
    rw [ef]
    unfold SetTable.probe.go
    rw [ep.1, slot_empty hn, ep.2]
  unfold SetTable.freeSlot
  rw [eq]
  rfl
theorem has_none (v : Nat) : SetTable.has #[] v = false := by
  unfold SetTable.has
  simp
theorem put_tab (vs : List Nat) (led : Bool) (v : Nat) : (tabOf vs led).put v = ({ tabOf vs led with place := SetTable.insertAt vs.toArray (SetTable.below vs.toArray v) v }, SetTable.below vs.toArray v) := by
  unfold SetTable.put
  have e : SetTable.has (tabOf vs led).dummies v = false := has_none v
  simp only [e]
  rfl
theorem laid5 : ∀ led : Bool, ∀ a : Fin 8, ∀ b : Fin 8, a < b → ∀ c : Fin 8, b < c → ∀ d : Fin 8, c < d → ∀ e : Fin 8, d < e →
    SetTable.laid 31 0 1 led true #[((a : Nat) : Int), ((b : Nat) : Int), ((c : Nat) : Int), ((d : Nat) : Int), ((e : Nat) : Int)] = some (tabOf [a.1, b.1, c.1, d.1, e.1] led, #[0, 1, 2, 3, 4]) := by decide +kernel
end L2
namespace L2
open PySem PySem.Spec PyProof.Rows
theorem tab_fits {vs : List Nat} {led : Bool} (h : Ris vs) : (tabOf vs led).fits vs.length = true := by
  have h8 := h.len
  unfold SetTable.fits SetTable.fill
  show (vs.toArray.size == vs.length && decide (vs.toArray.size + (#[] : Array Nat).size ≤ if vs.length < 5 then 7 else 31)) = true
  have e : vs.toArray.size = vs.length := List.size_toArray
  rw [e, Bool.and_eq_true]
  refine ⟨by simp, decide_eq_true ?_⟩
  show vs.length + 0 ≤ _
  split <;> omega
theorem hash_small {v : Nat} (hv : v < 8) : hashInt (v : Int) = (v : Int) := by
  match v, hv with
  | 0, _ => decide +kernel
  | 1, _ => decide +kernel
  | 2, _ => decide +kernel
  | 3, _ => decide +kernel
  | 4, _ => decide +kernel
  | 5, _ => decide +kernel
  | 6, _ => decide +kernel
  | 7, _ => decide +kernel
def EntIs (e : Int × Value) (v : Nat) : Prop := e.1 = (v : Int) ∧ ∃ t, e.2 = .int v t
def ledW (w : World) : Bool := !w.params.followText "set-order"
def Small (w : World) (h : Heap) (a : Addr) (vs : List Nat) : Prop :=
  ∃ o es ep, h.get? a = some o ∧ o.ExactSet ∧ o.data = .set es ep (tabOf vs (ledW w)) ∧ Paired EntIs es.toList vs ∧ Ris vs
theorem Small.at {w : World} {h h' : Heap} {a : Addr} {vs : List Nat} (x : Small w h a vs) (e : ∀ o, h.get? a = some o → h'.get? a = some o) : Small w h' a vs := by
  obtain ⟨o, es, ep, h1, h2⟩ := x
  exact ⟨o, es, ep, e _ h1, h2⟩
theorem paired_take {α β : Type} {F : α → β → Prop} : ∀ {l₁ : List α} {l₂ : List β} (n : Nat), Paired F l₁ l₂ → Paired F (l₁.take n) (l₂.take n)
  | _, _, 0, _ => .nil
  | _, _, _ + 1, .nil => .nil
  | _, _, n + 1, .cons h t => .cons h (paired_take n t)
theorem paired_drop {α β : Type} {F : α → β → Prop} : ∀ {l₁ : List α} {l₂ : List β} (n : Nat), Paired F l₁ l₂ → Paired F (l₁.drop n) (l₂.drop n)
  | _, _, 0, h => h
  | _, _, _ + 1, .nil => .nil
  | _, _, n + 1, .cons _ t => paired_drop n t
theorem paired_app {α β : Type} {F : α → β → Prop} : ∀ {a b : List α} {c d : List β}, Paired F a c → Paired F b d → Paired F (a ++ b) (c ++ d)
  | _, _, _, _, .nil, h => h
  | _, _, _, _, .cons h t, q => .cons h (paired_app t q)
theorem arr5 {α : Type} (x0 x1 x2 x3 x4 : α) : (#[0, 1, 2, 3, 4] : Array Nat).filterMap (#[x0, x1, x2, x3, x4][·]?) = #[x0, x1, x2, x3, x4] := by
  simp [Array.filterMap, Array.filterMapM]
theorem relay5 {es : Array (Int × Value)} {vs : List Nat} {t : SetTable} (hp : Paired EntIs es.toList vs) (h5 : vs.length = 5) (hr : Ris vs) (hm : t.mask = 7) (hf : t.finger = 0) (hmv : t.moves = 0) (hpl : t.plain = true) :
    relayAll t es 20 = (es, tabOf vs t.led, false) := by
  obtain ⟨l⟩ := es
  match vs, h5, hp, hr with
  | [a, b, c, d, e], _, hp, hr =>
    have hu := hr.up
    simp only [List.pairwise_cons, List.mem_cons, List.not_mem_nil, or_false, forall_eq_or_imp, forall_eq] at hu
    cases hp with
    | cons p0 hp => cases hp with
      | cons p1 hp => cases hp with
        | cons p2 hp => cases hp with
          | cons p3 hp => cases hp with
            | cons p4 hp =>
              cases hp
              rename_i x0 x1 x2 x3 x4
              have ha := hr.lt a (by simp)
              have hb := hr.lt b (by simp)
              have hc := hr.lt c (by simp)
              have hd := hr.lt d (by simp)
              have he := hr.lt e (by simp)
              have L := laid5 t.led ⟨a, ha⟩ ⟨b, hb⟩ hu.1.1 ⟨c, hc⟩ hu.2.1.1 ⟨d, hd⟩ hu.2.2.1.1 ⟨e, he⟩ hu.2.2.2.1
              have L : SetTable.laid 31 0 1 t.led true #[(a : Int), (b : Int), (c : Int), (d : Int), (e : Int)] = some (tabOf [a, b, c, d, e] t.led, #[0, 1, 2, 3, 4]) := L
              have hmap : (Array.map (fun x : Int × Value => x.1) ⟨[x0, x1, x2, x3, x4]⟩ : Array Int) = #[(a : Int), (b : Int), (c : Int), (d : Int), (e : Int)] := by
                simp [p0.1, p1.1, p2.1, p3.1, p4.1]
              have hrel : t.relaid #[(a : Int), (b : Int), (c : Int), (d : Int), (e : Int)] 20 = some (tabOf [a, b, c, d, e] t.led, #[0, 1, 2, 3, 4]) := by
                unfold SetTable.relaid
                have e1 : SetTable.sizeAbove 20 - 1 = 31 := by decide +kernel
                have e2 : t.movedTo 31 = 1 := by unfold SetTable.movedTo; rw [hm, hmv]; rfl
                rw [e1, e2, hf, hpl]
                exact L
              unfold relayAll
              rw [hmap, hrel]
              dsimp only
              have e3 : (#[0, 1, 2, 3, 4] : Array Nat).filterMap (fun i => (⟨[x0, x1, x2, x3, x4]⟩ : Array (Int × Value))[i]?) = ⟨[x0, x1, x2, x3, x4]⟩ := arr5 x0 x1 x2 x3 x4
              rw [e3]
              have e4 : coversAll #[0, 1, 2, 3, 4] (⟨[x0, x1, x2, x3, x4]⟩ : Array (Int × Value)).size = true := by
                show coversAll #[0, 1, 2, 3, 4] 5 = true
                decide +kernel
              have e5 : (tabOf [a, b, c, d, e] t.led).fits (⟨[x0, x1, x2, x3, x4]⟩ : Array (Int × Value)).size = true := tab_fits (led := t.led) hr
              rw [e4, e5]
              rfl
end L2
namespace L2
open PySem PySem.Spec PyProof.Rows
section
variable {prog : Program} {w : World} {A : Around} {E : Value → Shared → Prop} {s : Shared}
theorem ent_elems {es : List (Int × Value)} {vs : List Nat} (hp : Paired EntIs es vs) (h8 : ∀ v ∈ vs, v < 8) : ElemsOf (intKind prog w) es := by
  induction hp with
  | nil => intro e he; simp at he
  | @cons a b as bs h t ih =>
    intro e he
    rcases List.mem_cons.mp he with rfl | he
    · obtain ⟨h1, tk, h2⟩ := h
      have hb := h8 b List.mem_cons_self
      refine ⟨⟨(b : Int), by rw [h2]; exact intKind_is prog w _ _, ?_⟩, by rw [h2]; rfl⟩
      rw [h1]
      exact (hash_small hb).symm
    · exact ih (fun v hv => h8 v (List.mem_cons_of_mem _ hv)) e he
theorem ent_find {es : List (Int × Value)} {vs : List Nat} (hp : Paired EntIs es vs) (v : Nat) : (es.findIdx? fun e => (intKind prog w).is (v : Int) e.2) = none ↔ v ∉ vs := by
  rw [List.findIdx?_eq_none_iff]
  have key : ∀ (e : Int × Value) (b : Nat), EntIs e b → ((intKind prog w).is (v : Int) e.2 = false ↔ v ≠ b) := fun e b h => by
    obtain ⟨_, tk, h2⟩ := h
    rw [h2]
    have : (intKind prog w).is (v : Int) (.int (b : Int) tk) = decide ((v : Int) = (b : Int)) := KeyKind.is_eq_decide (intKind_is prog w _ _) _
    rw [this, decide_eq_false_iff_not]
    constructor
    · exact fun z q => z (by rw [q])
    · exact fun z q => z (by omega)
  induction hp with
  | nil => simp
  | @cons a b as bs h t ih =>
    constructor
    · intro z hm
      rcases List.mem_cons.mp hm with q | q
      · exact (key a b h).mp (z a List.mem_cons_self) q
      · exact ih.mp (fun x hx => z x (List.mem_cons_of_mem _ hx)) q
    · intro z x hx
      rcases List.mem_cons.mp hx with q | q
      · subst q
        exact (key x b h).mpr fun q => z (by rw [q]; exact List.mem_cons_self)
      · exact ih.mpr (fun q => z (List.mem_cons_of_mem _ q)) x q
def tabMid (vs : List Nat) (v : Nat) (led : Bool) : SetTable := { tabOf vs led with place := (insOf vs v).toArray }
theorem small_add {a : Addr} {vs : List Nat} {v : Nat} {t : Tok} {Q : Bool → Shared → Prop} (hS : Small w s.heap a vs) (hv : v < 8)
    (h : ∀ h' vs' b, Heap.SameBut a s.heap h' → Small w h' a vs' → (∀ x, x ∈ vs' ↔ x ∈ vs ∨ x = v) → Q b { s with heap := h' }) :
    wpAny (model prog w) A (setAddHashed a (.int v t) ((intKind prog w).hash (v : Int))) Q E s := by
  obtain ⟨o, es, ep, ho, hex, hd, hp, hr⟩ := hS
  have hlen : es.size = vs.length := by rw [← Array.length_toList]; exact Paired.length hp
  have h8 := hr.len
  have hf : (tabOf vs (ledW w)).fits es.size = true := by rw [hlen]; exact tab_fits hr
  have hb : es.size < scanBound := by unfold scanBound; omega
  have hel : ElemsOf (intKind prog w) es.toList := ent_elems hp hr.lt
  have hkey : (intKind prog w).is (v : Int) (.int (v : Int) t) = true := intKind_is prog w _ _
  have hash : (intKind prog w).hash (v : Int) = (v : Int) := hash_small hv
  have eS : s = { s with heap := s.heap } := by cases s; rfl
  unfold setAddHashed setAddHashedIn
  refine wpAny_holding (wpAny_bind (wpAny_setState_of ho hd hf ?_))
  dsimp only
  rw [byScan_of (knd := intKind prog w) rfl hb hel]
  simp only [↓reduceIte]
  unfold setAddByScan
  refine wpAny_bind ?_
  refine wpAny_bind (wpAny_rule ?_)
  refine wpAny_bind (wpAny_setScan_of hkey ho hd hf hel ?_)
  cases hq : List.findIdx? (fun e => (intKind prog w).is (v : Int) e.2) es.toList with
  | some j =>
    dsimp only
    refine wpAny_pure (wpAny_pure ?_)
    have hm : v ∈ vs := by
      by_cases z : v ∈ vs
      · exact z
      · rw [(ent_find hp v).mpr z] at hq
        cases hq
    rw [eS]
    exact h s.heap vs _ (Heap.SameBut.refl a s.heap) ⟨o, es, ep, ho, hex, hd, hp, hr⟩ fun x => ⟨.inl, fun z => z.elim id fun z => by rw [z]; exact hm⟩
  | none =>
    dsimp only
    have hn : v ∉ vs := (ent_find hp v).mp hq
    rw [hash]
    have hri := hr.ins hv hn
    have elp : (SetTable.insertAt es (SetTable.below vs.toArray v) ((v : Int), (Value.int (v : Int) t))).toList = es.toList.take (SetTable.below vs.toArray v) ++ ((v : Int), Value.int (v : Int) t) :: es.toList.drop (SetTable.below vs.toArray v) := SetTable.toList_insertAt ..
    have hp1 : Paired EntIs (SetTable.insertAt es (SetTable.below vs.toArray v) ((v : Int), (Value.int (v : Int) t))).toList (insOf vs v) := by
      rw [elp]
      exact paired_app (paired_take _ hp) (.cons ⟨rfl, t, rfl⟩ (paired_drop _ hp))
    have hz1 : (SetTable.insertAt es (SetTable.below vs.toArray v) ((v : Int), (Value.int (v : Int) t))).size = vs.length + 1 := by
      rw [← Array.length_toList, Paired.length hp1, ins_len]
    have epl : SetTable.insertAt vs.toArray (SetTable.below vs.toArray v) v = (insOf vs v).toArray := by
      apply Array.toList_inj.mp
      rw [SetTable.toList_insertAt]
      rfl
    have ft1 : (tabMid vs v (ledW w)).fits (vs.length + 1) = true := by
      unfold SetTable.fits SetTable.fill
      show ((insOf vs v).toArray.size == vs.length + 1 && decide ((insOf vs v).toArray.size + (#[] : Array Nat).size ≤ if vs.length < 5 then 7 else 31)) = true
      have e : (insOf vs v).toArray.size = vs.length + 1 := by rw [List.size_toArray, ins_len]
      have h8' := hri.len
      rw [ins_len] at h8'
      rw [e, Bool.and_eq_true]
      refine ⟨by simp, decide_eq_true ?_⟩
      show vs.length + 1 + 0 ≤ _
      split <;> omega
    have eL : layNew (tabOf vs (ledW w)) es (v : Int) (.int (v : Int) t) = (SetTable.insertAt es (SetTable.below vs.toArray v) ((v : Int), (Value.int (v : Int) t)), tabMid vs v (ledW w), false, false) := by
      unfold layNew
      rw [free_tab hv hn]
      dsimp only
      rw [put_tab, epl]
      show (SetTable.insertAt es (SetTable.below vs.toArray v) ((v : Int), (Value.int (v : Int) t)), (tabMid vs v (ledW w)).orStandIn (SetTable.insertAt es (SetTable.below vs.toArray v) ((v : Int), (Value.int (v : Int) t))).size, false, !(tabMid vs v (ledW w)).fits (SetTable.insertAt es (SetTable.below vs.toArray v) ((v : Int), (Value.int (v : Int) t))).size) = _
      unfold SetTable.orStandIn
      rw [hz1, ft1]
      rfl
    rw [eL]
    dsimp only
    generalize hes1 : SetTable.insertAt es (SetTable.below vs.toArray v) ((v : Int), (Value.int (v : Int) t)) = es1 at hp1 hz1
    have hb1 : es1.size ≤ sizeLine := fits_of_scanBound (by unfold scanBound; omega)
    refine wpAny_bind (wpAny_pure ?_)
    have hpl : (tabMid vs v (ledW w)).plain = true := rfl
    have hpk : plainKind (.int (v : Int) t) = true := rfl
    simp only [hpl, ↓reduceIte]
    rw [hashByValue_scannable 8 (x := .int (v : Int) t) rfl]
    refine wpAny_bind (wpAny_pure ?_)
    simp only [hpk, ↓reduceIte]
    refine wpAny_bind (wpAny_storeSet_of ho hd ?_ hb1)
    have ho1 : (s.heap.update a (Obj.putSet es1 (tabMid vs v (ledW w)))).get? a = some { o with data := .set es1 (ep + 1) (tabMid vs v (ledW w)) } := by
      have := Heap.get?_update_self (Obj.putSet es1 (tabMid vs v (ledW w))) ho (by rw [putSet_of _ _ hd]; rfl)
      rw [putSet_of _ _ hd] at this
      exact this
    have sb1 := Heap.SameBut.update s.heap a (Obj.putSet es1 (tabMid vs v (ledW w)))
    have full : (tabMid vs v (ledW w)).tooFull = decide ((vs.length + 1) * 5 ≥ (if vs.length < 5 then 7 else 31) * 3) := by
      unfold SetTable.tooFull SetTable.fill
      show decide (((insOf vs v).toArray.size + 0) * 5 ≥ _) = _
      rw [List.size_toArray, ins_len]
      rfl
    by_cases h4 : vs.length = 4
    · have tf : (tabMid vs v (ledW w)).tooFull = true := by
        rw [full, h4]
        rfl
      rw [tf]
      have eg : SetTable.grown es1.size = 20 := by rw [hz1, h4]; rfl
      have hm7 : (tabOf vs (ledW w)).mask = 7 := by
        show (if vs.length < 5 then 7 else 31) = 7
        rw [if_pos (by omega)]
      have hm0 : (tabOf vs (ledW w)).moves = 0 := by
        show (if vs.length < 5 then 0 else 1) = 0
        rw [if_pos (by omega)]
      have R := relay5 (t := tabMid vs v (ledW w)) hp1 (by rw [ins_len, h4]) hri hm7 rfl hm0 rfl
      simp only [Bool.not_false, Bool.true_and, ↓reduceIte]
      rw [eg, R]
      dsimp only
      refine wpAny_bind (wpAny_pure ?_)
      refine wpAny_bind (wpAny_storeSet_of ho1 rfl ?_ hb1)
      refine wpAny_pure ?_
      refine wpAny_pure ?_
      refine h _ (insOf vs v) _ (sb1.trans (Heap.SameBut.update _ a _)) ?_ fun x => ins_mem
      refine ⟨{ o with data := .set es1 (ep + 1 + 1) (tabOf (insOf vs v) (ledW w)) }, es1, ep + 1 + 1, ?_, hex, rfl, hp1, hri⟩
      have := Heap.get?_update_self (Obj.putSet es1 (tabOf (insOf vs v) (ledW w))) ho1 (by rw [putSet_of _ _ rfl]; rfl)
      rw [putSet_of _ _ rfl] at this
      exact this
    · have tf : (tabMid vs v (ledW w)).tooFull = false := by
        rw [full, decide_eq_false_iff_not]
        have h8' := hri.len
        rw [ins_len] at h8'
        split <;> omega
      rw [tf]
      simp only [Bool.not_false, Bool.true_and, Bool.false_eq_true, ↓reduceIte]
      refine wpAny_pure ?_
      refine wpAny_pure ?_
      refine h _ (insOf vs v) _ sb1 ?_ fun x => ins_mem
      refine ⟨_, es1, ep + 1, ho1, hex, ?_, hp1, hri⟩
      show Data.set es1 (ep + 1) (tabMid vs v (ledW w)) = _
      have e : (tabMid vs v (ledW w)) = tabOf (insOf vs v) (ledW w) := by
        unfold tabMid tabOf
        rw [ins_len]
        by_cases z : vs.length < 5
        · rw [if_pos z, if_pos z, if_pos (by omega), if_pos (by omega)]
        · rw [if_neg z, if_neg z, if_neg (by omega), if_neg (by omega)]
      rw [e]
end
end L2
namespace L2
open PySem PySem.Spec PyProof.Rows
section
variable {prog : Program} {w : World} {A : Around} {R : Result → Shared → Prop} {I : Addr} {fp wr : List Addr} {G : Array GenState → Array GenState → Prop} {n : Nat} {P : Nat → Value → Prop} {St : Nat → Shared → Prop}
theorem fill_loop (W : WalksS prog w A.in1 I fp wr G n P St) (S : Addr) (hSf : S ∉ fp) (val : Nat → Nat) (hval : ∀ i v, P i v → ∃ t, v = .int (val i : Nat) t) (h8 : ∀ i, i < n → val i < 8) :
    ∀ (k i : Nat) (s : Shared) (vs : List Nat), n - i = k → i ≤ n → St i s → Small w s.heap S vs → (∀ x, x ∈ vs ↔ ∃ j, j < i ∧ val j = x) →
      (∀ s' vs', Moved (S :: wr) G s s' → Small w s'.heap S vs' → (∀ x, x ∈ vs' ↔ ∃ j, j < n ∧ val j = x) → R (.ok (.ret .none)) s') →
      codeAny (model prog w) A (.builtin "set.update.loop" ⟨[.ref S, .ref I], []⟩) R s := by
  have out : S ∉ wr := fun z => hSf (W.sub _ z)
  have sub : ∀ b ∈ wr, b ∈ S :: wr := fun b z => List.mem_cons_of_mem _ z
  intro k
  induction k with
  | zero =>
    intro i s vs hk hi st hS hm hR
    have e : i = n := by omega
    subst e
    refine codeAny_builtin F.entry_set_update_loop ?_
    rw [Around.under_plainId F.plain_set_update_loop _]
    show wpAny _ A.in1 (pyNext (.ref I) >>= _) _ _ s
    refine wpAny_bind (W.done s _ _ st fun s' mv => ?_)
    exact wpAny_pure (hR s' vs (mv.mono sub) (hS.at fun o e => mv.heap S _ out e) hm)
  | succ k ih =>
    intro i s vs hk hi st hS hm hR
    have lt : i < n := by omega
    refine codeAny_builtin F.entry_set_update_loop ?_
    rw [Around.under_plainId F.plain_set_update_loop _]
    show wpAny _ A.in1 (pyNext (.ref I) >>= _) _ _ s
    refine wpAny_bind (W.item i s _ _ lt st fun v s' hP st' mv => ?_)
    obtain ⟨t, rfl⟩ := hval i v hP
    have hS' : Small w s'.heap S vs := hS.at fun o e => mv.heap S _ out e
    show wpAny _ A.in1 (holding [Value.int (val i : Nat) t] (setAdd S (.int (val i : Nat) t)) >>= _) _ _ s'
    refine wpAny_bind (wpAny_holding ?_)
    unfold setAdd
    refine wpAny_holding (wpAny_bind ((intKind prog w).pyHash (k := ((val i : Nat) : Int)) (intKind_is _ _ _ _) ?_))
    refine small_add (s := { s' with toks := s'.toks + 1 }) hS' (h8 i lt) fun h' vs' _ sb hS2 hm2 => ?_
    refine wpAny_pure ⟨plainId_quiet F.plain_set_update_loop _, ih (i + 1) _ vs' (by omega) lt (W.frame _ s' _ _ st' (Nat.le_succ _) fun b hb o e => ?_) hS2 (fun x => ?_) fun s'' vs'' mv' hS3 hm3 => ?_⟩
    · rw [sb.2 b (fun z : b = S => hSf (by rw [← z]; exact hb))]
      exact e
    · rw [hm2, hm]
      constructor
      · rintro (⟨j, h1, h2⟩ | rfl)
        · exact ⟨j, by omega, h2⟩
        · exact ⟨i, by omega, rfl⟩
      · rintro ⟨j, h1, h2⟩
        by_cases z : j = i
        · subst z
          exact .inr h2.symm
        · exact .inl ⟨j, by omega, h2⟩
    · refine hR s'' vs'' (Moved.trans W.gtrans ((mv.mono sub).then_heap (Nat.le_succ _) fun b o hb e => ?_) mv') hS3 hm3
      rw [sb.2 b (fun z : b = S => hb (by rw [z]; exact List.mem_cons_self))]
      exact e
end
theorem pick_go {α : Type} (next : Nat → Nat) : ∀ (fuel k : Nat) (left : List α) (out : Array α), left.length = fuel → (pickOrder.go next fuel k left out).toList.Perm (out.toList ++ left)
  | 0, k, left, out, h => by
    have e : left = [] := List.length_eq_zero_iff.mp h
    subst e
    unfold pickOrder.go
    simp
  | fuel + 1, k, left, out, h => by
    have hlt : next k % left.length < left.length := Nat.mod_lt _ (by omega)
    have e : left[next k % left.length]? = some left[next k % left.length] := List.getElem?_eq_getElem hlt
    unfold pickOrder.go
    rw [e]
    dsimp only
    refine (pick_go next fuel (k + 1) (left.eraseIdx (next k % left.length)) (out.push left[next k % left.length]) (by rw [List.length_eraseIdx_of_lt hlt]; omega)).trans ?_
    rw [Array.toList_push, List.append_assoc]
    refine List.Perm.append_left _ ?_
    have key : ∀ (l : List α) (j : Nat) (hj : j < l.length), ([l[j]] ++ l.eraseIdx j).Perm l := by
      intro l
      induction l with
      | nil => intro j hj; simp at hj
      | cons x r ih =>
        intro j hj
        cases j with
        | zero => simp
        | succ j =>
          have hj' : j < r.length := by simpa using hj
          have := ih j hj'
          simp only [List.getElem_cons_succ, List.eraseIdx_cons_succ, List.singleton_append] at this ⊢
          exact (List.Perm.swap x r[j] _).trans (this.cons x)
    exact key left _ hlt
theorem pick_perm {α : Type} (next : Nat → Nat) (xs : Array α) : (pickOrder next xs).toList.Perm xs.toList := by
  have := pick_go next xs.size 0 xs.toList #[] (by simp)
  unfold pickOrder
  simpa using this
def wayOf (w : World) (a : Addr) (ep : Nat) (es : Array (Int × Value)) : Array (Int × Value) := if w.params.followText "set-order" then pickOrder (w.params.setOrder a ep) es else es
theorem way_perm (w : World) (a : Addr) (ep : Nat) (es : Array (Int × Value)) : (wayOf w a ep es).toList.Perm es.toList := by
  unfold wayOf
  split
  · exact pick_perm _ _
  · exact .rfl
theorem way_size (w : World) (a : Addr) (ep : Nat) (es : Array (Int × Value)) : (wayOf w a ep es).size = es.size := by
  have := (way_perm w a ep es).length_eq
  simpa using this
def AtSlot (w : World) (vs : List Nat) (slot i : Nat) : Prop := ledW w = true → i ≤ vs.length ∧ SetTable.below vs.toArray slot = i
theorem slot_zero {w : World} {vs : List Nat} (h : Ris vs) : AtSlot w vs 0 0 := fun _ => by
  obtain ⟨b1, _, b3⟩ := below_ok 0 h.up
  refine ⟨Nat.zero_le _, ?_⟩
  by_cases z : SetTable.below vs.toArray 0 = 0
  · exact z
  · have := b1 0 vs[0] (by omega) (List.getElem?_eq_getElem (by omega))
    omega
theorem slot_next {w : World} {vs : List Nat} (h : Ris vs) {i x : Nat} (hx : vs[i]? = some x) : AtSlot w vs (x + 1) (i + 1) := fun _ => by
  obtain ⟨b1, b2, b3⟩ := below_ok (x + 1) h.up
  obtain ⟨hi, ex⟩ := List.getElem?_eq_some_iff.mp hx
  refine ⟨hi, ?_⟩
  have c1 : ¬ SetTable.below vs.toArray (x + 1) ≤ i := fun z => by
    have := b2 i x z hx
    omega
  have c2 : ¬ i + 1 < SetTable.below vs.toArray (x + 1) := fun z => by
    have hy : vs[i + 1]? = some vs[i + 1] := List.getElem?_eq_getElem (by omega)
    have q1 := b1 (i + 1) _ z hy
    have q2 := Ris.at h.up (Nat.lt_succ_self i) hx hy
    omega
  omega
section
variable {prog : Program} {w : World} {A : Around} {E : Value → Shared → Prop} {s : Shared}
theorem set_next_some {a : Addr} {o : Obj} {es : Array (Int × Value)} {ep : Nat} {vs : List Nat} {slot i : Nat} {e : Int × Value} {Q : Option (Value × Nat) → Shared → Prop}
    (ho : s.heap.get? a = some o) (hd : o.data = .set es ep (tabOf vs (ledW w))) (hp : Paired EntIs es.toList vs) (hr : Ris vs) (hs : AtSlot w vs slot i) (he : (wayOf w a ep es)[i]? = some e)
    (h : ∀ slot', AtSlot w vs slot' (i + 1) → Q (some (e.2, slot')) s) : wpAny (model prog w) A (setNext a slot i ep) Q E s := by
  have hlen : es.size = vs.length := by rw [← Array.length_toList]; exact Paired.length hp
  have hf : (tabOf vs (ledW w)).fits es.size = true := by rw [hlen]; exact tab_fits hr
  unfold setNext
  refine wpAny_bind (wpAny_setState_of ho hd hf ?_)
  dsimp only
  unfold setsByText
  refine wpAny_bind (wpAny_bind (wpAny_askSetting (wpAny_pure ?_)))
  show wpAny _ _ (if w.params.followText "set-order" = true then _ else _) _ _ _
  by_cases hb : w.params.followText "set-order" = true
  · rw [if_pos hb]
    have hw : wayOf w a ep es = pickOrder (w.params.setOrder a ep) es := by unfold wayOf; rw [if_pos hb]
    rw [hw] at he
    simp only [bne_self_eq_false, Bool.false_eq_true, if_false]
    refine wpAny_bind ?_
    unfold setWalk setsByText
    refine wpAny_bind (wpAny_setState_of ho hd hf ?_)
    dsimp only
    refine wpAny_bind (wpAny_bind (wpAny_askSetting (wpAny_pure ?_)))
    show wpAny _ _ (if w.params.followText "set-order" = true then _ else _) _ _ _
    rw [if_pos hb]
    refine wpAny_bind (wpAny_askSetting (wpAny_pure ?_))
    refine wpAny_pure ?_
    show Q (Option.map (fun e => (e.2, slot)) (pickOrder (w.params.setOrder a ep) es)[i]?) s
    rw [he]
    exact h slot fun z => by
      unfold ledW at z
      rw [hb] at z
      cases z
  · rw [if_neg hb]
    have hl : ledW w = true := by
      unfold ledW
      rw [Bool.not_eq_true] at hb
      rw [hb]
      rfl
    have hw : wayOf w a ep es = es := by unfold wayOf; rw [if_neg hb]
    rw [hw] at he
    have hi : i < es.size := (Array.getElem?_eq_some_iff.mp he).1
    obtain ⟨hs1, hs2⟩ := hs hl
    have hv : vs[i]? = some vs[i] := List.getElem?_eq_getElem (by omega)
    show wpAny _ _ (if (!(tabOf vs (ledW w)).plain && decide (es.size > 1)) = true then _ else _) _ _ _
    rw [if_neg (by show ¬ (!true && _) = true; simp)]
    refine wpAny_bind ?_
    show wpAny _ _ (if (!(ledW w) && !es.isEmpty) = true then _ else _) _ _ _
    rw [if_neg (by rw [hl]; simp)]
    refine wpAny_pure (wpAny_pure ?_)
    show Q (match es[SetTable.below vs.toArray slot]?, vs.toArray[SetTable.below vs.toArray slot]? with | some (_, x), some j => some (x, j + 1) | _, _ => none) s
    rw [hs2, he, List.getElem?_toArray, hv]
    exact h _ (slot_next hr hv)
theorem set_next_none {a : Addr} {o : Obj} {es : Array (Int × Value)} {ep : Nat} {vs : List Nat} {slot : Nat} {Q : Option (Value × Nat) → Shared → Prop}
    (ho : s.heap.get? a = some o) (hd : o.data = .set es ep (tabOf vs (ledW w))) (hp : Paired EntIs es.toList vs) (hr : Ris vs) (hs : AtSlot w vs slot es.size)
    (h : Q none s) : wpAny (model prog w) A (setNext a slot es.size ep) Q E s := by
  have hlen : es.size = vs.length := by rw [← Array.length_toList]; exact Paired.length hp
  have hf : (tabOf vs (ledW w)).fits es.size = true := by rw [hlen]; exact tab_fits hr
  unfold setNext
  refine wpAny_bind (wpAny_setState_of ho hd hf ?_)
  dsimp only
  unfold setsByText
  refine wpAny_bind (wpAny_bind (wpAny_askSetting (wpAny_pure ?_)))
  show wpAny _ _ (if w.params.followText "set-order" = true then _ else _) _ _ _
  by_cases hb : w.params.followText "set-order" = true
  · rw [if_pos hb]
    have hw : wayOf w a ep es = pickOrder (w.params.setOrder a ep) es := by unfold wayOf; rw [if_pos hb]
    have hz := way_size w a ep es
    rw [hw] at hz
    simp only [bne_self_eq_false, Bool.false_eq_true, if_false]
    refine wpAny_bind ?_
    unfold setWalk setsByText
    refine wpAny_bind (wpAny_setState_of ho hd hf ?_)
    dsimp only
    refine wpAny_bind (wpAny_bind (wpAny_askSetting (wpAny_pure ?_)))
    show wpAny _ _ (if w.params.followText "set-order" = true then _ else _) _ _ _
    rw [if_pos hb]
    refine wpAny_bind (wpAny_askSetting (wpAny_pure ?_))
    refine wpAny_pure ?_
    show Q (Option.map (fun e => (e.2, slot)) (pickOrder (w.params.setOrder a ep) es)[es.size]?) s
    rw [Array.getElem?_eq_none (by omega)]
    exact h
  · rw [if_neg hb]
    have hl : ledW w = true := by
      unfold ledW
      rw [Bool.not_eq_true] at hb
      rw [hb]
      rfl
    obtain ⟨hs1, hs2⟩ := hs hl
    show wpAny _ _ (if (!(tabOf vs (ledW w)).plain && decide (es.size > 1)) = true then _ else _) _ _ _
    rw [if_neg (by show ¬ (!true && _) = true; simp)]
    refine wpAny_bind ?_
    show wpAny _ _ (if (!(ledW w) && !es.isEmpty) = true then _ else _) _ _ _
    rw [if_neg (by rw [hl]; simp)]
    refine wpAny_pure (wpAny_pure ?_)
    show Q (match es[SetTable.below vs.toArray slot]?, vs.toArray[SetTable.below vs.toArray slot]? with | some (_, x), some j => some (x, j + 1) | _, _ => none) s
    rw [hs2, Array.getElem?_eq_none (Nat.le_refl _)]
    exact h
end
end L2
namespace L2
open PySem PySem.Spec PyProof.Rows
namespace SF
theorem owner_si : Manifest.owners.lookup (String.ofList ['r', 'o', 't', 'a', 'r', 'e', 't', 'i', '_', 't', 'e', 's'].reverse) = some Manifest.sig_set_iterator := by kernel_rfl
theorem slot_si_next : Slot "set_iterator" "__next__" "set_iterator.__next__" :=
  .of (owner := "set_iterator") (n := "__next__") (by rw [typeLookup_type, builtinLookup_eq_fast]; kernel_rfl) (by decide +kernel) (by decide +kernel) (by decide +kernel) (by first | exact .inl (by decide +kernel) | exact .inr (by decide +kernel)) (by rw [isSubtype_type]; kernel_rfl)
theorem entry_si_next : entryFor table "set_iterator.__next__" = some Builtin.«set_iterator.__next__» := entryFor_of_tree (by kernel_rfl)
theorem args_si_next (a : Value) : argsOk "set_iterator.__next__" ⟨[a], []⟩ := by
  unfold argsOk
  rw [signature?_of (id := "set_iterator.__next__") (n := ['_', '_', 't', 'x', 'e', 'n', '_', '_']) (o := ['r', 'o', 't', 'a', 'r', 'e', 't', 'i', '_', 't', 'e', 's']) (by kernel_rfl) owner_si]
  kernel_rfl
theorem slot_si_iter : Slot "set_iterator" "__iter__" "set_iterator.__iter__" :=
  .of (owner := "set_iterator") (n := "__iter__") (by rw [typeLookup_type, builtinLookup_eq_fast]; kernel_rfl) (by decide +kernel) (by decide +kernel) (by decide +kernel) (by first | exact .inl (by decide +kernel) | exact .inr (by decide +kernel)) (by rw [isSubtype_type]; kernel_rfl)
theorem args_si_iter (a : Value) : argsOk "set_iterator.__iter__" ⟨[a], []⟩ := by
  unfold argsOk
  rw [signature?_of (id := "set_iterator.__iter__") (n := ['_', '_', 'r', 'e', 't', 'i', '_', '_']) (o := ['r', 'o', 't', 'a', 'r', 'e', 't', 'i', '_', 't', 'e', 's']) (by kernel_rfl) owner_si]
  kernel_rfl
theorem entry_si_iter : entryFor table "set_iterator.__iter__" = some Builtin.«dict_keyiterator.__iter__» :=
  entryFor_alias (id' := "dict_keyiterator.__iter__") (by kernel_rfl) (by first | rfl | decide +kernel | (unfold String.splitOn; simp +decide [String.splitOnAux])) (by decide +kernel) (by kernel_rfl)
theorem entry_s_iter : entryFor table "set.__iter__" = some Builtin.«frozenset.__iter__» :=
  entryFor_alias (id' := "frozenset.__iter__") (by kernel_rfl) (by first | rfl | decide +kernel | (unfold String.splitOn; simp +decide [String.splitOnAux])) (by decide +kernel) (by kernel_rfl)
theorem s_len : typeLookup (.type "set") "__len__" = pure (some (.builtin "set.__len__")) := by rw [typeLookup_type, builtinLookup_eq_fast]; kernel_rfl
end SF
def setIt (a : Addr) (slot i n ep : Nat) : Obj := { cls := .type "set_iterator", data := .fields #[rawInt slot, rawInt i, .ref a, rawInt n, rawInt ep] }
def IsSetIt (h : Heap) (it a : Addr) (slot i n ep : Nat) : Prop := ∃ o, h.get? it = some o ∧ o.cls = .type "set_iterator" ∧ o.data = .fields #[rawInt slot, rawInt i, .ref a, rawInt n, rawInt ep]
theorem IsSetIt.ty {s : Shared} {it a : Addr} {slot i n ep : Nat} (x : IsSetIt s.heap it a slot i n ep) : s.TypeIs (.ref it) "set_iterator" := let ⟨o, ho, hc, _⟩ := x; ⟨o, ho, hc⟩
theorem IsSetIt.at {h h' : Heap} {it a : Addr} {slot i n ep : Nat} (x : IsSetIt h it a slot i n ep) (e : ∀ o, h.get? it = some o → h'.get? it = some o) : IsSetIt h' it a slot i n ep := let ⟨o, ho, r⟩ := x; ⟨o, e _ ho, r⟩
section
variable {prog : Program} {w : World} {A : Around} {E : Value → Shared → Prop} {s : Shared}
theorem it_item {it a : Addr} {o : Obj} {es : Array (Int × Value)} {ep : Nat} {vs : List Nat} {slot i : Nat} {e : Int × Value} {Q : Option Value → Shared → Prop}
    (hit : IsSetIt s.heap it a slot i es.size ep) (ho : s.heap.get? a = some o) (hd : o.data = .set es ep (tabOf vs (ledW w))) (hp : Paired EntIs es.toList vs) (hr : Ris vs) (hs : AtSlot w vs slot i) (he : (wayOf w a ep es)[i]? = some e)
    (hQ : ∀ h' slot', AtSlot w vs slot' (i + 1) → IsSetIt h' it a slot' (i + 1) es.size ep → Heap.SameBut it s.heap h' → Q (some e.2) { s with heap := h' }) : wpAny (model prog w) A (pyNext (.ref it)) Q E s := by
  obtain ⟨oi, hoi, hci, hdi⟩ := id hit
  have hlen : es.size = vs.length := by rw [← Array.length_toList]; exact Paired.length hp
  have hf : (tabOf vs (ledW w)).fits es.size = true := by rw [hlen]; exact tab_fits hr
  unfold pyNext
  refine wpAny_bind (wpAny_attempt (wpAny_callSpecial?_slot (name := Str.ofString "__next__") hit.ty SF.slot_si_next (wpAny_call_entry SF.slot_si_next hit.ty SF.entry_si_next ?_ (SF.args_si_next _))))
  unfold Builtin.«set_iterator.__next__»
  refine wpAny_bind (wpAny_of_eq (a := (Value.ref it, [])) rfl ?_)
  refine wpAny_bind (wpAny_fieldsOf hoi hdi ?_)
  dsimp only [rawInt]
  refine wpAny_bind (wpAny_setEntries_of ho hd hf ?_)
  simp only [bne_self_eq_false, Bool.false_eq_true, if_false, Int.toNat_natCast]
  refine wpAny_bind (set_next_some ho hd hp hr hs he fun slot' hs' => ?_)
  dsimp only
  refine wpAny_bind (wpAny_setField hoi hdi (by simp) ?_)
  have hoi1 := Heap.get?_update_self (Obj.mapFields (·.setIfInBounds 0 (rawInt (slot' : Nat)))) hoi (Obj.isFreed_of_fields (Obj.data_mapFields hdi _))
  refine wpAny_bind (wpAny_setField hoi1 (Obj.data_mapFields hdi _) (by simp) ?_)
  refine wpAny_pure ⟨e.2, rfl, wpAny_pure (hQ _ slot' hs' ⟨_, Heap.get?_update_self _ hoi1 (Obj.isFreed_of_fields (Obj.data_mapFields (Obj.data_mapFields hdi _) _)), ?_, ?_⟩ ((Heap.SameBut.update ..).trans (Heap.SameBut.update ..)))⟩
  · rw [Obj.cls_mapFields, Obj.cls_mapFields]
    exact hci
  · rw [Obj.data_mapFields (Obj.data_mapFields hdi _)]
    simp [rawInt]
theorem it_end {it a : Addr} {o : Obj} {es : Array (Int × Value)} {ep : Nat} {vs : List Nat} {slot : Nat} {Q : Option Value → Shared → Prop} (hh : A.handled = none)
    (hit : IsSetIt s.heap it a slot es.size es.size ep) (ho : s.heap.get? a = some o) (hd : o.data = .set es ep (tabOf vs (ledW w))) (hp : Paired EntIs es.toList vs) (hr : Ris vs) (hs : AtSlot w vs slot es.size)
    (hQ : ∀ h', Heap.ExtBut it s.heap h' → Q none { s with heap := h' }) : wpAny (model prog w) A (pyNext (.ref it)) Q E s := by
  obtain ⟨oi, hoi, hci, hdi⟩ := id hit
  have hlen : es.size = vs.length := by rw [← Array.length_toList]; exact Paired.length hp
  have hf : (tabOf vs (ledW w)).fits es.size = true := by rw [hlen]; exact tab_fits hr
  unfold pyNext
  refine wpAny_bind (wpAny_attempt (wpAny_callSpecial?_slot (name := Str.ofString "__next__") hit.ty SF.slot_si_next (wpAny_call_entry SF.slot_si_next hit.ty SF.entry_si_next ?_ (SF.args_si_next _))))
  unfold Builtin.«set_iterator.__next__»
  refine wpAny_bind (wpAny_of_eq (a := (Value.ref it, [])) rfl ?_)
  refine wpAny_bind (wpAny_fieldsOf hoi hdi ?_)
  dsimp only [rawInt]
  refine wpAny_bind (wpAny_setEntries_of ho hd hf ?_)
  simp only [bne_self_eq_false, Bool.false_eq_true, if_false, Int.toNat_natCast]
  refine wpAny_bind (set_next_none ho hd hp hr hs ?_)
  dsimp only
  refine wpAny_bind (wpAny_setField hoi hdi (by simp) ?_)
  refine wpAny_bind ?_
  simp only [newExc, newTuple]
  refine wpAny_bind (wpAny_newObj_type ?_ (by size_fits))
  refine wpAny_bind (m := firstArgMember _ _) (wpAny_of_eq (a := Value.none) (by first | rfl | (simp only [firstArgMember]; rfl)) ?_)
  refine wpAny_newObj_type ?_ (by size_fits)
  simp only [raiseNew]
  refine wpAny_bind (wpAny_handled ?_)
  first | rw [show A.in1.handled = none from hh] | rw [hh]
  refine wpAny_bind (wpAny_pure (wpAny_throw ?_))
  refine wpAny_bind (wpAny_isInstance (T := "StopIteration") (b := true) ⟨_, Heap.get?_push_size _ rfl, rfl⟩ isSubtype_stop ?_)
  exact wpAny_pure (hQ _ ((((Heap.SameBut.update ..).extBut).push _).push _))
theorem it_self {it a : Addr} {slot i n ep : Nat} {Q : Value → Shared → Prop} (hit : IsSetIt s.heap it a slot i n ep) (h : Q (.ref it) s) : wpAny (model prog w) A (pyIter (.ref it)) Q E s := by
  refine wpAny_pyIter_slot hit.ty SF.slot_si_iter (wpAny_call_entry SF.slot_si_iter hit.ty SF.entry_si_iter ?_ (SF.args_si_iter _))
  show wpAny _ _ (ret (.ref it)) _ _ s
  exact wpAny_pure ⟨_, rfl, "set_iterator", _, hit.ty, SF.slot_si_next.lookup, h⟩
end
theorem walks_set {prog : Program} {w : World} {A : Around} (hh : A.handled = none) (it a : Addr) (hne : a ≠ it) {o : Obj} {es : Array (Int × Value)} {ep : Nat} {vs : List Nat} (hd : o.data = .set es ep (tabOf vs (ledW w))) (hp : Paired EntIs es.toList vs) (hr : Ris vs) :
    Walks prog w A it [it, a] [it] es.size (fun i v => ∃ e, (wayOf w a ep es)[i]? = some e ∧ v = e.2) (fun i h => (∃ slot, AtSlot w vs slot i ∧ IsSetIt h it a slot i es.size ep) ∧ h.get? a = some o) where
  sub := fun b hb => by simp at hb; simp [hb]
  frame := fun i h h' x hk => by
    obtain ⟨⟨slot, h1, h2⟩, h3⟩ := x
    exact ⟨⟨slot, h1, h2.at fun o e => hk it (by simp) o e⟩, hk a (by simp) o h3⟩
  item := fun i s Q E hi x hQ => by
    obtain ⟨⟨slot, h1, h2⟩, h3⟩ := x
    have hi' : i < (wayOf w a ep es).size := by rw [way_size]; exact hi
    refine it_item h2 h3 hd hp hr h1 (e := (wayOf w a ep es)[i]) (Array.getElem?_eq_getElem hi') fun h' slot' q1 q2 q3 => ?_
    exact hQ _ h' s.toks ⟨_, Array.getElem?_eq_getElem hi', rfl⟩ ⟨⟨slot', q1, q2⟩, (q3.2 a hne).trans h3⟩ fun b o hb e => q3.extBut b o (fun z => hb (by simp [z])) e
  done := fun s Q E x hQ => by
    obtain ⟨⟨slot, h1, h2⟩, h3⟩ := x
    exact it_end hh h2 h3 hd hp hr h1 fun h' q => hQ h' s.toks fun b o hb e => q b o (fun z => hb (by simp [z])) e
  self := fun i s Q E x hQ => by
    obtain ⟨⟨slot, h1, h2⟩, _⟩ := x
    exact it_self h2 hQ
end L2
namespace L2
open PySem PySem.Spec PyProof.Rows
section
variable {prog : Program} {w : World} {A : Around} {E : Value → Shared → Prop} {s : Shared}
theorem iter_small {a : Addr} {o : Obj} {es : Array (Int × Value)} {ep : Nat} {vs : List Nat} {Q : Value → Shared → Prop} (ho : s.heap.get? a = some o) (hex : o.ExactSet) (hd : o.data = .set es ep (tabOf vs (ledW w))) (hp : Paired EntIs es.toList vs) (hr : Ris vs)
    (h : Q (.ref s.heap.objs.size) { s with heap := s.heap.push (setIt a 0 0 es.size ep) }) : wpAny (model prog w) A (pyIter (.ref a)) Q E s := by
  have hlen : es.size = vs.length := by rw [← Array.length_toList]; exact Paired.length hp
  have hf : (tabOf vs (ledW w)).fits es.size = true := by rw [hlen]; exact tab_fits hr
  have ty : s.TypeIs (.ref a) "set" := ⟨o, ho, hex.1⟩
  refine wpAny_pyIter_slot ty F.slot_set_iter (wpAny_call_entry F.slot_set_iter ty SF.entry_s_iter ?_ (F.args_set_iter_1 _))
  unfold Builtin.«frozenset.__iter__»
  refine wpAny_bind (wpAny_of_eq (a := a) rfl ?_)
  refine wpAny_bind ?_
  unfold Builtin.Frozenset.sizeOf
  refine wpAny_bind (wpAny_setEntries_of ho hd hf (wpAny_pure ?_))
  refine wpAny_bind ?_
  refine wpAny_bind ?_
  refine wpAny_setState_of ho hd hf ?_
  dsimp only
  unfold setsByText
  refine wpAny_bind (wpAny_bind (wpAny_askSetting (wpAny_pure (wpAny_pure ?_))))
  show wpAny _ _ (if (!(w.params.followText "set-order") && (!(tabOf vs (ledW w)).plain && decide (es.size > 1))) = true then _ else _) _ _ _
  rw [if_neg (by show ¬ (_ && (!true && _)) = true; simp)]
  refine wpAny_bind (wpAny_pure ?_)
  refine wpAny_bind (wpAny_setEpoch_of ho hd hf ?_)
  refine wpAny_bind (wpAny_newObj_type (T := "set_iterator") ?_ (by size_fits))
  exact wpAny_pure ⟨_, rfl, "set_iterator", _, ⟨_, Heap.get?_push_size _ rfl, rfl⟩, SF.slot_si_next.lookup, h⟩
theorem room_small {a : Addr} {Q : Bool → Shared → Prop} (ty : s.TypeIs (.ref a) "set") (h : Q false s) : wpAny (model prog w) A (Builtin.List.listLengthHint (.ref a)) Q E s := by
  unfold Builtin.List.listLengthHint
  refine wpAny_bind (wpAny_specialOf ty SF.s_len ?_)
  generalize hid : ("set.__len__" : String) = id0
  wp_delta
  rw [show splitId id0 = some ("set", "__len__") from by subst hid; decide +kernel]
  subst hid
  refine wpAny_bind (wpAny_isInstance (b := true) ty sub_set_self ?_)
  refine wpAny_bind (wpAny_typeOf ty ?_)
  exact wpAny_pure h
theorem ents_ints {es : Array (Int × Value)} {vs : List Nat} (hp : Paired EntIs es.toList vs) {l : List (Int × Value)} (pl : l.Perm es.toList) : ∃ ms : List Int, IntsAre (l.map (·.2)) ms ∧ ms.Perm (vs.map fun (v : Nat) => (v : Int)) := by
  have h1 : ∀ {a : List (Int × Value)} {b : List Nat}, Paired EntIs a b → b.map (fun (v : Nat) => (v : Int)) = a.map (·.1) := by
    intro a b h
    induction h with
    | nil => rfl
    | cons q t ih => rw [List.map_cons, List.map_cons, ih, q.1]
  have h2 : ∀ e ∈ es.toList, ∃ t, e.2 = Value.int e.1 t := by
    generalize es.toList = a at hp
    induction hp with
    | nil => intro e he; simp at he
    | @cons x b as bs q t ih =>
      intro e he
      rcases List.mem_cons.mp he with rfl | he
      · obtain ⟨q1, tk, q2⟩ := q
        exact ⟨tk, by rw [q2, q1]⟩
      · exact ih e he
  have h3 : ∀ l : List (Int × Value), (∀ e ∈ l, ∃ t, e.2 = Value.int e.1 t) → IntsAre (l.map (·.2)) (l.map (·.1)) := by
    intro l
    induction l with
    | nil => intro _; exact .nil
    | cons x r ih =>
      intro hx
      obtain ⟨tk, e⟩ := hx x List.mem_cons_self
      rw [List.map_cons, List.map_cons, e]
      exact .cons _ _ (ih fun y hy => hx y (List.mem_cons_of_mem _ hy))
  refine ⟨l.map (·.1), h3 l fun e he => h2 e (pl.mem_iff.mp he), ?_⟩
  rw [h1 hp]
  exact pl.map _
theorem collect_small {a : Addr} {vs : List Nat} {Q : List Value → Shared → Prop} (hh : A.handled = none) (hS : Small w s.heap a vs)
    (h : ∀ h' tk us ms, (∀ b o, s.heap.get? b = some o → h'.get? b = some o) → s.heap.objs.size ≤ h'.objs.size → IntsAre us ms → ms.Perm (vs.map fun (v : Nat) => (v : Int)) → Q us { s with heap := h', toks := tk }) :
    wpAny (model prog w) A (collect (.ref a)) Q E s := by
  obtain ⟨o, es, ep, ho, hex, hd, hp, hr⟩ := hS
  have alt : a < s.heap.objs.size := Heap.lt_size ho
  unfold collect
  refine wpAny_bind (wpAny_runValue (codeAny_builtin entry_proto_collect' ?_))
  show wpAny _ _ (do again (.builtin "list.__iadd__" ⟨[← newList [], .ref a], []⟩)) _ _ s
  refine wpAny_bind (wpAny_newList (wpAny_pure ⟨Code.quiet_builtin _ (by decide +kernel), codeAny_builtin entry_list_iadd' ?_⟩))
  show wpAny _ _ (Builtin.List.listExtendWith (.ref s.heap.objs.size) (.ref a) (.ref s.heap.objs.size)) _ _ { s with heap := s.heap.push (seqObj "list" #[] 0) }
  have ho1 : (s.heap.push (seqObj "list" #[] 0)).get? a = some o := Heap.get?_push_of_some _ ho
  have hL1 : (s.heap.push (seqObj "list" #[] 0)).get? s.heap.objs.size = some (seqObj "list" #[] 0) := Heap.get?_push_size _ rfl
  have ty1 : Shared.TypeIs { s with heap := s.heap.push (seqObj "list" #[] 0) } (.ref a) "set" := ⟨o, ho1, hex.1⟩
  unfold Builtin.List.listExtendWith
  refine wpAny_bind (wpAny_typeOf ty1 ?_)
  have n1 : Builtin.List.listSameRef (.ref s.heap.objs.size) (.ref a) = false := by simp [Builtin.List.listSameRef, Nat.ne_of_gt alt]
  rw [n1]
  show wpAny _ _ (if (false || (Value.type "set" == Value.type "list") || (Value.type "set" == Value.type "tuple")) = true then _ else _) _ _ _
  rw [if_neg (by decide)]
  refine wpAny_bind (iter_small (s := { s with heap := s.heap.push (seqObj "list" #[] 0) }) ho1 hex hd hp hr ?_)
  have sz1 : (s.heap.push (seqObj "list" #[] 0)).objs.size = s.heap.objs.size + 1 := size_push' ..
  generalize hH2 : (s.heap.push (seqObj "list" #[] 0)).push (setIt a 0 0 es.size ep) = h2
  have k2 : ∀ b ob, s.heap.get? b = some ob → h2.get? b = some ob := fun b ob e => by
    rw [← hH2]
    exact Heap.get?_push_of_some _ (Heap.get?_push_of_some _ e)
  have hI2 : h2.get? (s.heap.objs.size + 1) = some (setIt a 0 0 es.size ep) := by
    rw [← hH2, ← sz1]
    exact Heap.get?_push_size _ rfl
  have hL2 : h2.get? s.heap.objs.size = some (seqObj "list" #[] 0) := by
    rw [← hH2]
    exact Heap.get?_push_of_some _ hL1
  refine wpAny_bind (wpAny_holding (room_small (s := { s with heap := h2 }) ⟨o, k2 _ _ ho, hex.1⟩ ?_))
  show wpAny _ _ (if (false || _) = true then _ else _) _ _ _
  rw [if_pos (by decide +kernel)]
  refine wpAny_bind (wpAny_rule ?_)
  unfold Builtin.List.listTouch
  refine wpAny_bind ?_
  refine wpAny_bind (listUpdate_at (s := { s with heap := h2 }) hL2 rfl ?_ (by decide) (by decide))
  have hL3 := get?_update_seq hL2 (·.push .none)
  refine listUpdate_at (s := { s with heap := h2.update s.heap.objs.size (Obj.mapSeq (·.push .none)) }) hL3 rfl ?_ (by decide) (by decide)
  have hL4 := get?_update_seq hL3 (·.pop)
  generalize hH4 : (h2.update s.heap.objs.size (Obj.mapSeq (·.push .none))).update s.heap.objs.size (Obj.mapSeq (·.pop)) = h4 at hL4
  have k4 : ∀ b ob, b ≠ s.heap.objs.size → h2.get? b = some ob → h4.get? b = some ob := fun b ob nb e => by
    rw [← hH4]
    exact (Heap.get?_update_other _ _ (Ne.symm nb)).trans ((Heap.get?_update_other _ _ (Ne.symm nb)).trans e)
  have ho4 : h4.get? a = some o := k4 _ _ (Nat.ne_of_lt alt) (k2 _ _ ho)
  have hI4 : h4.get? (s.heap.objs.size + 1) = some (setIt a 0 0 es.size ep) := k4 _ _ (Nat.ne_of_gt (Nat.lt_succ_self _)) hI2
  show wpAny _ _ (again (.builtin "list.extend.loop" ⟨[.ref s.heap.objs.size, .ref ((s.heap.push (seqObj "list" #[] 0)).objs.size), .ref s.heap.objs.size], []⟩)) _ _ _
  rw [sz1]
  have hne : a ≠ s.heap.objs.size + 1 := Nat.ne_of_lt (Nat.lt_succ_of_lt alt)
  have W := walks_set (prog := prog) (w := w) (A := A.in1) (by simpa using hh) (s.heap.objs.size + 1) a hne hd hp hr
  have hSf : s.heap.objs.size ∉ [s.heap.objs.size + 1, a] := by
    simp only [List.mem_cons, List.not_mem_nil, or_false, not_or]
    exact ⟨Nat.ne_of_lt (Nat.lt_succ_self _), Nat.ne_of_gt alt⟩
  have h8 := hr.len
  have hlen : es.size = vs.length := by rw [← Array.length_toList]; exact Paired.length hp
  refine wpAny_pure ⟨plainId_quiet F.plain_extend_loop _, codeAny_extend_loopS (A := A) W.toS (by rw [sizeLine_eq]; omega) _ hSf _ es.size 0 { s with heap := h4 } #[] _ rfl (Nat.zero_le _) ⟨⟨0, slot_zero hr, ⟨_, hI4, rfl, rfl⟩⟩, ho4⟩ hL4 (ItemsOf.nil _) fun s' acc c hm hS' hacc => ?_⟩
  show wpAny _ _ (load s.heap.objs.size >>= _) _ _ s'
  refine wpAny_bind (wpAny_load hS' ?_)
  refine wpAny_pure ?_
  rw [Moved.eq_with hm]
  obtain ⟨a1, a2⟩ := hacc
  have ea : acc.toList = (wayOf w a ep es).toList.map (·.2) := by
    refine List.ext_getElem? fun j => ?_
    rw [List.getElem?_map, Array.getElem?_toList, Array.getElem?_toList]
    by_cases hj : j < es.size
    · have hj1 : j < acc.size := by rw [a1]; exact hj
      obtain ⟨e, q1, q2⟩ := a2 j acc[j] (Array.getElem?_eq_getElem hj1)
      rw [q1, Array.getElem?_eq_getElem hj1, q2]
      rfl
    · rw [Array.getElem?_eq_none (by omega), Array.getElem?_eq_none (by rw [way_size]; omega)]
      rfl
  obtain ⟨ms, m1, m2⟩ := ents_ints hp (way_perm w a ep es)
  rw [← ea] at m1
  refine h s'.heap s'.toks acc.toList ms (fun b ob e => ?_) (Nat.le_of_lt (Heap.lt_size hS')) m1 m2
  have lt := Heap.lt_size e
  exact hm.heap b ob (by simp only [List.mem_cons, List.not_mem_nil, or_false, not_or]; exact ⟨Nat.ne_of_lt lt, Nat.ne_of_lt (Nat.lt_succ_of_lt lt)⟩) (k4 _ _ (Nat.ne_of_lt lt) (k2 _ _ e))
theorem sorted_small {a : Addr} {vs : List Nat} {Q : Value → Shared → Prop} (hh : A.handled = none) (hS : Small w s.heap a vs)
    (h : ∀ h' tk p c out ms, (∀ b o, s.heap.get? b = some o → h'.get? b = some o) → s.heap.objs.size ≤ p → h'.get? p = some (seqObj "list" out c) → IntsAre out.toList ms → ms.Perm (vs.map fun (v : Nat) => (v : Int)) → ms.Pairwise (· ≤ ·) → Q (.ref p) { s with heap := h', toks := tk }) :
    wpAny (model prog w) A (call (.builtin "sorted") [.ref a]) Q E s := by
  have h8 : vs.length ≤ 8 := by
    obtain ⟨_, _, _, _, _, _, _, hr⟩ := hS
    exact hr.len
  have old := hS
  refine Calls.call_function_entry kind_sorted plain_sorted entry_sorted (args_sorted1 _) ?_
  unfold Builtin.«sorted»
  refine wpAny_bind (m := checkCount "sorted" 1 1 _) (wpAny_pure ?_)
  refine wpAny_bind (collect_small (by simpa using hh) hS fun h1 tk us ms k1 hsz i1 p1 => ?_)
  have lu : us.length < 64 := by
    rw [IntsAre.length i1, p1.length_eq, List.length_map]
    omega
  refine wpAny_bind (wpAny_newList ?_ (by rw [sizeLine_eq]; omega))
  have hoL : (h1.push (seqObj "list" us.toArray 0)).get? h1.objs.size = some (seqObj "list" us.toArray 0) := Heap.get?_push_size _ rfl
  refine wpAny_bind (wpAny_holding (wpAny_call_entry slot_list_sort ⟨_, hoL, rfl⟩ entry_list_sort (list_sort_tree hoL i1 lu fun out ns' a1 a2 a3 => ⟨_, rfl, ?_⟩) (args_list_sort _)))
  obtain ⟨c, hc⟩ := sortedHeap_at (out := out) hoL
  refine wpAny_pure ⟨_, rfl, h _ tk _ c out ns' (fun b ob e => ?_) hsz hc a1 (a2.trans p1) a3⟩
  have lt : b < h1.objs.size := Heap.lt_size (k1 _ _ e)
  rw [sortedHeap_old (Nat.ne_of_lt lt) (by rw [size_push']; exact Nat.lt_succ_of_lt lt)]
  exact Heap.get?_push_of_some _ (k1 _ _ e)
end
end L2
namespace L2
open PySem PySem.Spec PyProof.Rows
section
variable {prog : Program} {w : World} {A : Around} {E : Value → Shared → Prop} {s : Shared}
def noSet (w : World) : Obj := { cls := .type "set", dict := none, data := .set #[] 0 (tabOf [] (ledW w)) }
theorem no_small {h : Heap} {a : Addr} (e : h.get? a = some (noSet w)) : Small w h a [] := ⟨_, #[], 0, e, ⟨rfl, rfl, rfl⟩, rfl, .nil, Ris.nil⟩
theorem made_set (v : Value) {Q₁ : Value → Shared → Prop} (h : Q₁ (.ref s.heap.objs.size) { s with heap := s.heap.push (noSet w) }) :
    codeAny (model prog w) A (.call (.builtin "set.__new__") ⟨[.type "set", v], []⟩) (wants Q₁ E) s := by
  refine codeAny_of_tree ?_
  show wpAny _ A.in1 (checkBuiltinCall "set.__new__" ⟨[.type "set", v], []⟩ >>= fun _ => again (.builtin "set.__new__" ⟨[.type "set", v], []⟩)) _ _ s
  refine wpAny_bind (wpAny_of_eq (F.newCall_set_1 v) (wpAny_pure ⟨plainId_quiet F.plain_set_new _, codeAny_builtin F.entry_set_new ?_⟩))
  rw [Around.under_plainId F.plain_set_new _]
  unfold Builtin.«set.__new__» Builtin.Frozenset.newClass
  have hsub := sub_set_self
  obtain ⟨hp, g, d, tk, os⟩ := s
  dsimp only
  wp_walk
  refine wpAny_askSetting (wpAny_pure ?_)
  simp only [newObj]
  refine wpAny_bind (wpAny_alloc (wpAny_pure (wpAny_pure ?_)))
  exact h
set_option maxHeartbeats 3200000 in
theorem set_small {l : Addr} {items : Array Value} {ns : List Nat} {Q : Value → Shared → Prop} (hh : A.handled = none) (hl : s.heap.IsList l items) (hi : IntsAre items.toList (ns.map fun (v : Nat) => (v : Int))) (h8 : ∀ v ∈ ns, v < 8)
    (h : ∀ (h' : Heap) (tk : Nat) (vs : List Nat), Small w h' s.heap.objs.size vs → (∀ x, x ∈ vs ↔ x ∈ ns) → (∀ b o, s.heap.get? b = some o → h'.get? b = some o) → Q (.ref s.heap.objs.size) { s with heap := h', toks := tk }) :
    wpAny (model prog w) A (call (.type "set") [.ref l]) Q E s := by
  obtain ⟨c, tl, hmro⟩ := F.called_set.mro
  have hmade := F.called_set.made
  have hsub := F.called_set.sub
  refine wpAny_call (codeAny_of_tree ?_)
  show wpAny _ _ (callAny (.type "set") _) _ _ _
  refine wpAny_pure ⟨Code.quiet_builtin _ (by decide +kernel), codeAny_builtin F.entry_type_call ?_⟩
  rw [Around.under_plain (weight_type_call_type "set" [.ref l] []) rfl]
  have h1 := F.called_set.notType
  have h2 := F.called_set.canCreate
  have hct := F.typeCall_set_1 (.ref l)
  repeat (any_goals (first | assumption | wp_step))
  refine codeAny_mono (made_set (.ref l) (E := E) (Q₁ := fun obj s₁ => obj = .ref s.heap.objs.size ∧ s₁ = { s with heap := s.heap.push (noSet w) }) ⟨rfl, rfl⟩) fun r s₁ hr => ?_
  cases r with
  | error e => exact hr
  | ok fl =>
    cases fl with
    | ret obj =>
      obtain ⟨rfl, rfl⟩ := hr
      have hS : (s.heap.push (noSet w)).get? s.heap.objs.size = some (noSet w) := Heap.get?_push_size _ rfl
      have hT : Shared.TypeIs { s with heap := s.heap.push (noSet w) } (.ref s.heap.objs.size) "set" := ⟨_, hS, rfl⟩
      have hli := F.called_set.init.lookup
      have hbi := F.called_set.init.bind (.ref s.heap.objs.size)
      repeat (any_goals (first | assumption | wp_step))
      refine codeAny_mono (codeAny_call_builtin (R := wants (fun r s₂ => r = .none ∧ ∃ h' tk vs, s₂ = { s with heap := h', toks := tk } ∧ Small w h' s.heap.objs.size vs ∧ (∀ x, x ∈ vs ↔ x ∈ ns) ∧
          (∀ b o, s.heap.get? b = some o → h'.get? b = some o)) E) F.called_set.init.plain F.entry_set_init (check_set_init_1 hT ?_)) fun r₂ s₂ hr₂ => ?_
      · obtain ⟨ol, hol, hcl, nl, hdl⟩ := hl
        obtain ⟨ocls, odict, odata, oslots⟩ := ol
        simp only at hcl hdl
        subst hcl; subst hdl
        have hol' : (s.heap.push (noSet w)).get? l = some { cls := .type "list", dict := odict, data := .seq items nl, slots := oslots } := Heap.get?_push_of_some _ hol
        have hsls := F.sub_list_set
        have hslf := F.sub_list_frozenset
        have hne : (Value.type "list" == Value.type "dict") = false := by decide
        have hl1 : (s.heap.push (noSet w)).IsList l items := ⟨_, hol', rfl, nl, rfl⟩
        unfold noSet at *
        unfold Builtin.«set.__init__» noKeywords Builtin.Frozenset.updateFrom
        generalize hPI : pyIter = PI
        wp_walk
        subst hPI
        refine wpAny_pyIter_list hl1 ?_
        refine wpAny_bind (wpAny_runValue ?_)
        have llt : l < s.heap.objs.size := Heap.lt_size hol
        have zlen : items.size = ns.length := by
          have := IntsAre.length hi
          simpa using this
        have sz1 : (s.heap.push { cls := .type "set", dict := none, data := .set #[] 0 (tabOf [] (ledW w)) }).objs.size = s.heap.objs.size + 1 := size_push' ..
        have nI : l ≠ (s.heap.push { cls := .type "set", dict := none, data := .set #[] 0 (tabOf [] (ledW w)) }).objs.size := by
          rw [sz1]
          exact Nat.ne_of_lt (Nat.lt_succ_of_lt llt)
        have hSf : s.heap.objs.size ∉ [(s.heap.push { cls := .type "set", dict := none, data := .set #[] 0 (tabOf [] (ledW w)) }).objs.size, l] := by
          rw [sz1]
          simp only [List.mem_cons, List.not_mem_nil, or_false, not_or]
          exact ⟨Nat.ne_of_lt (Nat.lt_succ_self _), Nat.ne_of_gt llt⟩
        have hval : ∀ (i : Nat) (v : Value), items[i]? = some v → ∃ t, v = .int ((fun i => ns.getD i 0) i : Nat) t := fun i v hv => by
          obtain ⟨t, e⟩ := IntsAre.int_at hi i v (by rw [Array.getElem?_toList]; exact hv)
          refine ⟨t, ?_⟩
          rw [e]
          congr 1
          simp only [List.getD_eq_getElem?_getD, List.getElem?_map]
          cases ns[i]? <;> rfl
        have hin : ∀ i, i < items.size → (fun i => ns.getD i 0) i ∈ ns := fun i hi' => by
          have hlt : i < ns.length := by omega
          simp only [List.getD_eq_getElem?_getD, List.getElem?_eq_getElem hlt]
          exact List.getElem_mem hlt
        refine fill_loop ((Walks.list (by simp [hh]) _ l nI items).toS) s.heap.objs.size hSf (fun i => ns.getD i 0) hval (fun i q => h8 _ (hin i q)) items.size 0 _ [] (by omega) (Nat.zero_le _)
          ⟨⟨_, Heap.get?_push_size _ rfl, rfl, rfl⟩, hl1.push _⟩ (no_small (Heap.get?_push_of_some _ hS)) (fun x => by simp) ?_
        intro s' vs hm hS' hm'
        obtain ⟨h', g', d', tk', os'⟩ := s'
        have eg : g' = s.gens := hm.gens
        have ed : d' = s.drawn := hm.drawn
        have eo : os' = s.os := hm.os
        subst eg; subst ed; subst eo
        show wpAny _ _ _ _ _ _
        refine wpAny_pure ?_
        show wpAny _ _ (ret Value.none) _ _ _
        refine wpAny_pure ⟨rfl, h', tk', vs, rfl, hS', fun x => ?_, fun b o e => ?_⟩
        · rw [hm']
          constructor
          · rintro ⟨j, h1, h2⟩
            rw [← h2]
            exact hin j h1
          · intro hx
            obtain ⟨j, hj, e⟩ := List.mem_iff_getElem.mp hx
            refine ⟨j, by omega, ?_⟩
            simp only [List.getD_eq_getElem?_getD, List.getElem?_eq_getElem hj]
            exact e
        · have lt := Heap.lt_size e
          refine hm.heap b o ?_ (Heap.get?_push_of_some _ (Heap.get?_push_of_some _ e))
          rw [sz1]
          simp only [List.mem_cons, List.not_mem_nil, or_false, not_or]
          exact ⟨Nat.ne_of_lt lt, Nat.ne_of_lt (Nat.lt_succ_of_lt lt)⟩
      · cases r₂ with
        | error e => exact hr₂
        | ok fl₂ =>
          cases fl₂ with
          | ret r =>
            obtain ⟨rfl, h', tk, vs, rfl, hS', hm', hk'⟩ := hr₂
            repeat (any_goals (first | assumption | wp_step))
            exact h _ _ _ hS' hm' hk'
          | _ => exact hr₂.elim
    | _ => exact hr.elim
end
end L2

namespace Sh
section
variable {α : Type}
def Lnk (nb : α → List α) : List α → Prop
  | [] => True
  | [_] => True
  | x :: y :: r => y ∈ nb x ∧ Lnk nb (y :: r)
theorem Lnk.snoc {nb : α → List α} : ∀ {c : List α} {x y : α}, Lnk nb c → c.getLast? = some x → y ∈ nb x → Lnk nb (c ++ [y])
  | [], _, _, _, e, _ => by simp at e
  | [a], x, y, _, e, h => by
    have e : a = x := by simpa using e
    subst e
    exact ⟨h, trivial⟩
  | a :: b :: r, x, y, l, e, h => by
    have e' : (b :: r).getLast? = some x := by simpa [List.getLast?_cons_cons] using e
    exact ⟨l.1, Lnk.snoc (c := b :: r) l.2 e' h⟩
theorem Lnk.init {nb : α → List α} : ∀ {c : List α} {y : α}, Lnk nb (c ++ [y]) → Lnk nb c
  | [], _, _ => trivial
  | [_], _, _ => trivial
  | _ :: b :: r, _, l => ⟨l.1, Lnk.init (c := b :: r) l.2⟩
theorem Lnk.last {nb : α → List α} : ∀ {c : List α} {x y : α}, Lnk nb (c ++ [y]) → c.getLast? = some x → y ∈ nb x
  | [], _, _, _, e => by simp at e
  | [a], x, y, l, e => by
    have e : a = x := by simpa using e
    subst e
    exact l.1
  | a :: b :: r, x, y, l, e => by
    have e' : (b :: r).getLast? = some x := by simpa [List.getLast?_cons_cons] using e
    exact Lnk.last (c := b :: r) l.2 e'
theorem Lnk.at {nb : α → List α} : ∀ {c : List α} {i : Nat} {x y : α}, Lnk nb c → c[i]? = some x → c[i + 1]? = some y → y ∈ nb x
  | [], _, _, _, _, e, _ => by simp at e
  | [a], i, _, _, _, _, e => by simp at e
  | a :: b :: r, 0, x, y, l, e, e' => by
    have e : a = x := by simpa using e
    have e' : b = y := by simpa using e'
    subst e; subst e'
    exact l.1
  | a :: b :: r, i + 1, x, y, l, e, e' => Lnk.at (c := b :: r) (i := i) l.2 (by simpa using e) (by simpa using e')
structure Chn (nb : α → List α) (s t : α) (c : List α) : Prop where
  hd : c.head? = some s
  lt : c.getLast? = some t
  ln : Lnk nb c
theorem Chn.one {nb : α → List α} {s : α} : Chn nb s s [s] := ⟨rfl, rfl, trivial⟩
theorem Chn.pos {nb : α → List α} {s t : α} {c : List α} (h : Chn nb s t c) : 1 ≤ c.length := by
  have := h.hd
  cases c with
  | nil => simp at this
  | cons _ _ => simp
theorem Chn.snoc {nb : α → List α} {s t x : α} {c : List α} (h : Chn nb s t c) (hx : x ∈ nb t) : Chn nb s x (c ++ [x]) := by
  refine ⟨?_, by simp, h.ln.snoc h.lt hx⟩
  have := h.hd
  cases c with
  | nil => simp at this
  | cons _ _ => simpa using this
theorem Chn.of_one {nb : α → List α} {s t : α} {c : List α} (h : Chn nb s t c) (hl : c.length ≤ 1) : t = s ∧ c = [s] := by
  match c, h, hl with
  | [], h, _ => exact absurd h.hd (by simp)
  | [a], h, _ =>
    have h1 : a = s := by simpa using h.hd
    have h2 : a = t := by simpa using h.lt
    subst h1; subst h2
    exact ⟨rfl, rfl⟩
theorem Chn.cut {nb : α → List α} {s x : α} {c : List α} (h : Chn nb s x c) (hl : 2 ≤ c.length) : ∃ t c', c = c' ++ [x] ∧ Chn nb s t c' ∧ x ∈ nb t := by
  have hne : c ≠ [] := fun e => by rw [e] at hl; simp at hl
  have e := (List.dropLast_concat_getLast hne).symm
  have ex : c.getLast hne = x := by
    have := h.lt
    rw [List.getLast?_eq_some_getLast hne] at this
    exact Option.some.inj this
  rw [ex] at e
  have hne' : c.dropLast ≠ [] := fun z => by
    have : c.length = 1 := by rw [e, z]; rfl
    omega
  refine ⟨c.dropLast.getLast hne', c.dropLast, e, ⟨?_, List.getLast?_eq_some_getLast hne', ?_⟩, ?_⟩
  · have := h.hd
    rw [e] at this
    cases q : c.dropLast with
    | nil => exact absurd q hne'
    | cons a r =>
      rw [q] at this
      simpa using this
  · have := h.ln
    rw [e] at this
    exact this.init
  · have := h.ln
    rw [e] at this
    exact this.last (List.getLast?_eq_some_getLast hne')
def Min (nb : α → List α) (s t : α) (n : Nat) : Prop := ∀ c, Chn nb s t c → n ≤ c.length
structure Bfs (nb : α → List α) (s : α) (k : Nat) (paths : List (α × List α)) (fnd : List α) (done : α → α → Prop) : Prop where
  nd : (paths.map (·.1)).Nodup
  ch : ∀ q c, (q, c) ∈ paths → Chn nb s q c ∧ Min nb s q c.length
  lo : ∀ q c, (q, c) ∈ paths → c.length ≤ k + 1 ∨ (c.length = k + 2 ∧ q ∈ fnd)
  fd : ∀ q ∈ fnd, ∃ c, (q, c) ∈ paths ∧ c.length = k + 2
  cp : ∀ q c, Chn nb s q c → c.length ≤ k + 1 → ∃ c', (q, c') ∈ paths
  dn : ∀ t q, done t q → q ∈ nb t → ∃ c, (q, c) ∈ paths
theorem Bfs.start {nb : α → List α} {s : α} : Bfs nb s 0 [(s, [s])] [] (fun _ _ => False) where
  nd := by simp
  ch := fun q c h => by
    have h : (q, c) = (s, [s]) := by simpa using h
    cases h
    exact ⟨Chn.one, fun c h => h.pos⟩
  lo := fun q c h => by
    have h : (q, c) = (s, [s]) := by simpa using h
    cases h
    exact .inl (by simp)
  fd := fun q h => absurd h (by simp)
  cp := fun q c h hl => ⟨[s], by rw [(h.of_one (by omega)).1]; simp⟩
  dn := fun _ _ h => h.elim
theorem Bfs.key {nb : α → List α} {s : α} {k : Nat} {paths : List (α × List α)} {fnd : List α} {done : α → α → Prop} (B : Bfs nb s k paths fnd done) {q : α} {c c' : List α} (h : (q, c) ∈ paths) (h' : (q, c') ∈ paths) : c = c' := by
  have key : ∀ (l : List (α × List α)), (l.map (·.1)).Nodup → (q, c) ∈ l → (q, c') ∈ l → c = c' := by
    intro l
    induction l with
    | nil => intro _ h; simp at h
    | cons p r ih =>
      intro nd h h'
      rw [List.map_cons, List.nodup_cons] at nd
      rcases List.mem_cons.mp h with e | h
      · rcases List.mem_cons.mp h' with e' | h'
        · rw [← e'] at e
          exact (Prod.mk.inj e).2
        · exact absurd (List.mem_map.mpr ⟨_, h', by rw [← e]⟩) nd.1
      · rcases List.mem_cons.mp h' with e' | h'
        · exact absurd (List.mem_map.mpr ⟨_, h, by rw [← e']⟩) nd.1
        · exact ih nd.2 h h'
  exact key paths B.nd h h'
theorem Bfs.skip {nb : α → List α} {s t q : α} {k : Nat} {paths : List (α × List α)} {fnd : List α} {done : α → α → Prop} (B : Bfs nb s k paths fnd done) (h : ∃ c, (q, c) ∈ paths) : Bfs nb s k paths fnd (fun a b => done a b ∨ (a = t ∧ b = q)) where
  nd := B.nd
  ch := B.ch
  lo := B.lo
  fd := B.fd
  cp := B.cp
  dn := fun a b h' hb => h'.elim (fun z => B.dn a b z hb) fun z => by rw [z.2]; exact h
theorem Bfs.add {nb : α → List α} {s t q : α} {k : Nat} {paths : List (α × List α)} {fnd : List α} {done : α → α → Prop} {c : List α} (B : Bfs nb s k paths fnd done) (ht : (t, c) ∈ paths) (hl : c.length = k + 1) (hq : q ∈ nb t) (hn : ¬ ∃ c, (q, c) ∈ paths) :
    Bfs nb s k (paths ++ [(q, c ++ [q])]) (fnd ++ [q]) (fun a b => done a b ∨ (a = t ∧ b = q)) where
  nd := by
    rw [List.map_append, List.nodup_append]
    refine ⟨B.nd, by simp, fun x hx y hy e => ?_⟩
    have hy : y = q := by simpa using hy
    subst e; subst hy
    obtain ⟨⟨a, b⟩, h1, h2⟩ := List.mem_map.mp hx
    have h2 : a = x := h2
    subst h2
    exact hn ⟨b, h1⟩
  ch := fun a b h => by
    rcases List.mem_append.mp h with h | h
    · exact B.ch a b h
    · have h : (a, b) = (q, c ++ [q]) := by simpa using h
      cases h
      refine ⟨(B.ch t c ht).1.snoc hq, fun c' h' => ?_⟩
      by_cases z : c'.length ≤ k + 1
      · exact absurd (B.cp _ c' h' z) hn
      · rw [List.length_append, hl]
        show k + 1 + 1 ≤ _
        omega
  lo := fun a b h => by
    rcases List.mem_append.mp h with h | h
    · exact (B.lo a b h).imp id fun z => ⟨z.1, List.mem_append_left _ z.2⟩
    · have h : (a, b) = (q, c ++ [q]) := by simpa using h
      cases h
      exact .inr ⟨by rw [List.length_append, hl]; rfl, by simp⟩
  fd := fun a h => by
    rcases List.mem_append.mp h with h | h
    · obtain ⟨b, h1, h2⟩ := B.fd a h
      exact ⟨b, List.mem_append_left _ h1, h2⟩
    · have h : a = q := by simpa using h
      subst h
      exact ⟨c ++ [a], by simp, by rw [List.length_append, hl]; rfl⟩
  cp := fun a b h h' => by
    obtain ⟨c', h1⟩ := B.cp a b h h'
    exact ⟨c', List.mem_append_left _ h1⟩
  dn := fun a b h hb => by
    rcases h with h | ⟨_, h⟩
    · obtain ⟨c', h1⟩ := B.dn a b h hb
      exact ⟨c', List.mem_append_left _ h1⟩
    · subst h
      exact ⟨c ++ [b], by simp⟩
theorem Bfs.up {nb : α → List α} {s : α} {k : Nat} {paths : List (α × List α)} {fnd : List α} {done : α → α → Prop} (B : Bfs nb s k paths fnd done) (hd : ∀ t c, (t, c) ∈ paths → c.length = k + 1 → ∀ q ∈ nb t, done t q) :
    Bfs nb s (k + 1) paths [] (fun _ _ => False) where
  nd := B.nd
  ch := B.ch
  lo := fun q c h => .inl (by rcases B.lo q c h with z | z <;> omega)
  fd := fun q h => absurd h (by simp)
  cp := fun q c h hl => by
    by_cases z : c.length ≤ k + 1
    · exact B.cp q c h z
    · obtain ⟨t, c', rfl, h1, h2⟩ := h.cut (by omega)
      have e : c'.length = k + 1 := by
        rw [List.length_append, List.length_singleton] at z hl
        omega
      obtain ⟨ct, h3⟩ := B.cp t c' h1 (by omega)
      obtain ⟨h4, h5⟩ := B.ch t ct h3
      have h6 := h5 c' h1
      by_cases z2 : ct.length = k + 1
      · exact B.dn t q (hd t ct h3 z2 q h2) h2
      · exact B.cp q (ct ++ [q]) (h4.snoc h2) (by rw [List.length_append, List.length_singleton]; omega)
  dn := fun _ _ h => h.elim
theorem Bfs.all {nb : α → List α} {s : α} {k : Nat} {paths : List (α × List α)} {done : α → α → Prop} (B : Bfs nb s k paths [] done) (he : ∀ t c, (t, c) ∈ paths → c.length ≠ k + 1) : ∀ q c, Chn nb s q c → ∃ c', (q, c') ∈ paths := by
  intro q c
  generalize hn : c.length = n
  induction n using Nat.strongRecOn generalizing q c with
  | _ n ih =>
    intro h
    by_cases z : c.length ≤ k + 1
    · exact B.cp q c h z
    · obtain ⟨t, c', rfl, h1, h2⟩ := h.cut (by omega)
      rw [List.length_append, List.length_singleton] at hn
      obtain ⟨ct, h3⟩ := ih c'.length (by omega) t c' rfl h1
      obtain ⟨h4, _⟩ := B.ch t ct h3
      have h6 := he t ct h3
      have h7 : ct.length ≤ k + 1 := by
        rcases B.lo t ct h3 with z | ⟨_, z⟩
        · exact z
        · simp at z
      exact B.cp q (ct ++ [q]) (h4.snoc h2) (by rw [List.length_append, List.length_singleton]; omega)
theorem Lnk.mem {nb : α → List α} {V : List α} (hV : ∀ t q, q ∈ nb t → q ∈ V) {s : α} : ∀ {c : List α}, Lnk nb (s :: c) → ∀ x ∈ c, x ∈ V
  | [], _, _, h => by simp at h
  | y :: r, l, x, h => by
    rcases List.mem_cons.mp h with rfl | h
    · exact hV _ _ l.1
    · exact Lnk.mem hV (s := y) l.2 x h
theorem Chn.mem {nb : α → List α} {V : List α} (hV : ∀ t q, q ∈ nb t → q ∈ V) {s t : α} {c : List α} (hs : s ∈ V) (h : Chn nb s t c) : ∀ x ∈ c, x ∈ V := by
  have h1 := h.hd
  have h2 := h.ln
  cases c with
  | nil => simp at h1
  | cons a r =>
    have h1 : a = s := by simpa using h1
    subst h1
    intro x hx
    rcases List.mem_cons.mp hx with rfl | hx
    · exact hs
    · exact Lnk.mem hV h2 x hx
theorem nodup_le {α : Type} [DecidableEq α] : ∀ {l V : List α}, l.Nodup → (∀ x ∈ l, x ∈ V) → l.length ≤ V.length
  | [], _, _, _ => by simp
  | x :: r, V, nd, h => by
    rw [List.nodup_cons] at nd
    have hx := h x List.mem_cons_self
    have ih := nodup_le (l := r) (V := V.erase x) nd.2 fun y hy => by
      have hne : y ≠ x := fun e => nd.1 (e ▸ hy)
      exact (List.mem_erase_of_ne hne).mpr (h y (List.mem_cons_of_mem _ hy))
    rw [List.length_erase_of_mem hx] at ih
    have := List.length_pos_of_mem hx
    simp only [List.length_cons]
    omega
end
end Sh
namespace Sh
def allT (n : Nat) : List (Int × Int) := (rangeI n).flatMap fun a => ((rangeI n).filter fun b => decide (a ≠ b)).map fun b => (a, b)
theorem mem_allT {n : Nat} {p : Int × Int} : p ∈ allT n ↔ Turn n p := by
  obtain ⟨a, b⟩ := p
  unfold allT
  rw [List.mem_flatMap]
  constructor
  · rintro ⟨x, hx, h⟩
    obtain ⟨y, hy, e⟩ := List.mem_map.mp h
    obtain ⟨hy1, hne⟩ := List.mem_filter.mp hy
    have hx1 := mem_rangeI.mp hx
    have hy2 := mem_rangeI.mp hy1
    obtain ⟨rfl, rfl⟩ := Prod.mk.inj e
    exact ⟨hx1.1, hx1.2, hy2.1, hy2.2, of_decide_eq_true hne⟩
  · intro h
    exact ⟨a, mem_rangeI.mpr ⟨h.a0, h.a1⟩, List.mem_map.mpr ⟨b, List.mem_filter.mpr ⟨mem_rangeI.mpr ⟨h.b0, h.b1⟩, decide_eq_true h.ne⟩, rfl⟩⟩
def nbT (n : Nat) (ws : List (List Int)) (p : Int × Int) : List (Int × Int) := (allT n).filter (bars ws p)
theorem mem_nbT {n : Nat} {ws : List (List Int)} {p q : Int × Int} : q ∈ nbT n ws p ↔ Turn n q ∧ bars ws p q = true := by
  unfold nbT
  rw [List.mem_filter, mem_allT]
def norm (ns : List Int) : List Int := (rangeI 8).filter fun b => decide (b ∈ ns)
theorem mem_norm {n : Nat} {ns : List Int} (h8 : n ≤ 8) (h : Good n ns) {b : Int} : b ∈ norm ns ↔ b ∈ ns := by
  unfold norm
  rw [List.mem_filter, mem_rangeI, decide_eq_true_iff]
  constructor
  · exact fun z => z.2
  · intro z
    have := h.1 b z
    exact ⟨by omega, z⟩
theorem split_norm {n : Nat} {ws : List (List Int)} (h8 : n ≤ 8) (h : ∀ w ∈ ws, Good n w) (a b c : Int) : split (ws.map norm) a b c = split ws a b c := by
  unfold split
  rw [List.any_map]
  refine Bool.eq_iff_iff.mpr ?_
  rw [List.any_eq_true, List.any_eq_true]
  have e : ∀ w ∈ ws, ∀ x, decide (x ∈ norm w) = decide (x ∈ w) := fun w hw x => decide_eq_decide.mpr (mem_norm h8 (h w hw))
  constructor
  · rintro ⟨w, hw, z⟩
    refine ⟨w, hw, ?_⟩
    simp only [Function.comp_apply, e w hw] at z
    exact z
  · rintro ⟨w, hw, z⟩
    refine ⟨w, hw, ?_⟩
    simp only [Function.comp_apply, e w hw]
    exact z
theorem bars_norm {n : Nat} {ws : List (List Int)} (h8 : n ≤ 8) (h : ∀ w ∈ ws, Good n w) (p q : Int × Int) : bars (ws.map norm) p q = bars ws p q := by
  unfold bars onw
  rw [split_norm h8 h, split_norm h8 h]
theorem allT_len {n : Nat} (h8 : n ≤ 8) : (allT n).length ≤ 56 := by
  match n, h8 with
  | 0, _ => decide +kernel
  | 1, _ => decide +kernel
  | 2, _ => decide +kernel
  | 3, _ => decide +kernel
  | 4, _ => decide +kernel
  | 5, _ => decide +kernel
  | 6, _ => decide +kernel
  | 7, _ => decide +kernel
  | 8, _ => decide +kernel
end Sh
namespace Sh
theorem allT_nodup {n : Nat} (h8 : n ≤ 8) : (allT n).Nodup := by
  match n, h8 with
  | 0, _ => decide +kernel
  | 1, _ => decide +kernel
  | 2, _ => decide +kernel
  | 3, _ => decide +kernel
  | 4, _ => decide +kernel
  | 5, _ => decide +kernel
  | 6, _ => decide +kernel
  | 7, _ => decide +kernel
  | 8, _ => decide +kernel
def turnsI (n i : Nat) : List (Int × Int) := (rangeI i).flatMap fun a => ((rangeI n).filter fun b => decide (a ≠ b)).map fun b => (a, b)
def turnsJ (i j : Nat) : List (Int × Int) := ((rangeI j).filter fun b => decide ((i : Int) ≠ b)).map fun b => ((i : Int), b)
theorem turnsI_succ (n i : Nat) : turnsI n (i + 1) = turnsI n i ++ turnsJ i n := by
  unfold turnsI turnsJ
  rw [rangeI_succ, List.flatMap_append]
  simp
theorem turnsJ_succ (i j : Nat) : turnsJ i (j + 1) = if (i : Int) = (j : Int) then turnsJ i j else turnsJ i j ++ [((i : Int), (j : Int))] := by
  unfold turnsJ
  rw [rangeI_succ, List.filter_append, List.map_append]
  by_cases h : (i : Int) = (j : Int)
  · rw [if_pos h]
    simp [h]
  · rw [if_neg h]
    simp [h]
end Sh
namespace Sh
end Sh
namespace L2
open PySem PySem.Spec PyProof.Rows
theorem rangeI_lt (n : Nat) : (Sh.rangeI n).Pairwise (· < ·) := by
  unfold Sh.rangeI
  rw [List.pairwise_map]
  exact List.pairwise_lt_range.imp fun h => by omega
theorem norm_of {ns ms : List Int} {vs : List Nat} (hr : Ris vs) (hm : ∀ x : Nat, x ∈ vs ↔ (x : Int) ∈ ns) (hp : ms.Perm (vs.map fun (v : Nat) => (v : Int))) (hs : ms.Pairwise (· ≤ ·)) : ms = Sh.norm ns := by
  have n1 : (vs.map fun (v : Nat) => (v : Int)).Nodup := by
    unfold List.Nodup
    rw [List.pairwise_map]
    exact hr.up.imp fun h => by omega
  have n2 : (Sh.norm ns).Nodup := ((rangeI_lt 8).filter _).imp fun h => by omega
  have n3 : (Sh.norm ns).Pairwise (· ≤ ·) := ((rangeI_lt 8).filter _).imp fun h => by omega
  refine Sh.sorted_unique (hp.trans ((List.perm_ext_iff_of_nodup n1 n2).mpr fun z => ?_)) hs n3
  unfold Sh.norm
  rw [List.mem_map, List.mem_filter, Sh.mem_rangeI, decide_eq_true_iff]
  constructor
  · rintro ⟨v, h1, rfl⟩
    have := hr.lt v h1
    exact ⟨by omega, (hm v).mp h1⟩
  · rintro ⟨h1, h2⟩
    exact ⟨z.toNat, (hm _).mpr (by rw [show ((z.toNat : Nat) : Int) = z by omega]; exact h2), by omega⟩
section
variable {X : Cx}
def tSortSet (K : PySem.W.Frag) (te : TE) : TE := fun σ H Q => te σ H fun x H1 => ∃ (p : Addr) (ns : List Int), x = .ref p ∧ SqL K H1 p (ns.map V.int) ∧ (∀ b ∈ ns, 0 ≤ b ∧ b < 8) ∧ ∀ l, H1 l = none → Q (.ref l) (upd H1 l (.lst ((Sh.norm ns).map V.int)))
theorem pe_sortedSet {e : Expr} {te : TE} {p1 p2 q1 q2 : Pos} (hg : Gl X "sorted") (hm : X.mg "sorted" = none) (hg2 : Gl X "set") (hm2 : X.mg "set" = none) (hc : X.calm = true) (he : PE X e te)
    (hs : starEach [e] X.env = [(false, eval e X.env)] := by rfl) (hs2 : starEach [.Call (.Name "set" p2) [e] [] q2] X.env = [(false, eval (.Call (.Name "set" p2) [e] [] q2) X.env)] := by rfl) :
    PE X (.Call (.Name "sorted" p1) [.Call (.Name "set" p2) [e] [] q2] [] q1) (tSortSet X.K te) := by
  intro pins s σ H Q I h
  refine wpAny_Call_Name_kw (ld_blt I hg hm PyProof.Rows.boot_sorted ?_)
  refine PyProof.Rows.callWith_builtin1 (spl_one hs2 ?_) hs2 rfl
  refine Call_ (ld_blt I hg2 hm2 boot_set (PyProof.Rows.callWith_type1 (spl_one hs (thn (he pins s σ H _ I h) fun u s1 ⟨x, H1, I1, r1, q⟩ => ?_)) hs rfl))
  obtain ⟨p, ns, rfl, hq, h8, q⟩ := q
  cases (show u = Value.ref p from r1)
  obtain ⟨its, rv, pl, hz⟩ := I1.list hq
  have hI : IntsAre its ns := intsAre_of rv
  have en : (ns.map Int.toNat).map (fun (v : Nat) => (v : Int)) = ns := by
    rw [List.map_map]
    conv => rhs; rw [← List.map_id ns]
    refine List.map_congr_left fun b hb => ?_
    have := h8 b hb
    show ((b.toNat : Nat) : Int) = b
    omega
  refine set_small (l := p) (items := its.toArray) (ns := ns.map Int.toNat) (I1.ok.hd hc) pl.isList (by rw [en]; simpa using hI) (fun v hv => ?_) fun h' tk vs hS hm' k1 => ?_
  · obtain ⟨b, hb, rfl⟩ := List.mem_map.mp hv
    have := h8 b hb
    omega
  · have hr : Ris vs := by
      obtain ⟨_, _, _, _, _, _, _, z⟩ := hS
      exact z
    have sz1 : s1.heap.objs.size ≤ h'.objs.size := by
      obtain ⟨_, _, _, z, _⟩ := hS
      exact Nat.le_of_lt (Heap.lt_size z)
    refine sorted_small (s := { s1 with heap := h', toks := tk }) (I1.ok.hd hc) hS fun h2 tk2 pp c out ms k2 hge hget i2 p2 s2 => ?_
    have hge' : s1.heap.objs.size ≤ pp := Nat.le_trans sz1 hge
    have em : ms = Sh.norm ns := norm_of hr (fun x => by
      rw [hm', List.mem_map]
      constructor
      · rintro ⟨b, hb, e⟩
        have := h8 b hb
        rw [show (x : Int) = b by omega]
        exact hb
      · intro hx
        exact ⟨_, hx, by omega⟩) p2 s2
    subst em
    refine ⟨.ref pp, _, I1.laid (t' := tk2) (fun b o z => k2 b o (k1 b o z)) hge' ?_, rfl, q pp (I1.hok.fresh hge')⟩
    refine ⟨?_, out.toList, c, vals_ints i2, by rw [Array.toArray_toList]; exact hget⟩
    have := List.length_filter_le (fun b => decide (b ∈ ns)) (Sh.rangeI 8)
    rw [Sh.rangeI_len] at this
    rw [List.length_map, sizeLine_eq]
    unfold Sh.norm
    omega
theorem k_sortSet {K : PySem.W.Frag} {e : Expr} {te : TE} {p1 p2 q1 q2 : Pos} (hK : X.K = K) (hg : Gl X "sorted") (hm : X.mg "sorted" = none) (hg2 : Gl X "set") (hm2 : X.mg "set" = none) (hc : X.calm = true) (he : PE X e te)
    (hs : starEach [e] X.env = [(false, eval e X.env)] := by rfl) (hs2 : starEach [.Call (.Name "set" p2) [e] [] q2] X.env = [(false, eval (.Call (.Name "set" p2) [e] [] q2) X.env)] := by rfl) :
    PE X (.Call (.Name "sorted" p1) [.Call (.Name "set" p2) [e] [] q2] [] q1) (tSortSet K te) := hK ▸ pe_sortedSet hg hm hg2 hm2 hc he hs hs2
theorem d_dictSet {pins : List (Addr × Obj)} {σ : St} {H : Hp} {s : Shared} {a b : Addr} {kvs : List (List Key × V)} {k : List Key} {v : V} {r : Value} {A : Around} {E : Value → Shared → Prop} {Q : Unit → Shared → Prop} (hu : A.units + 1 < cLine) (I : Inv X pins σ H s)
    (e : H a = some (.dT kvs)) (eb : H b = some (.tup (k.map kV))) (l : kvs.length < sizeLine) (rv : RelV v r) (h : ∀ s', Inv X pins σ (upd H a (.dT (putK kvs k v))) s' → Q () s') : wpAny (model X.prog X.w) A (dictSet a (.ref b) r) Q E s := by
  obtain ⟨z, hd, xs, rel, dd⟩ := dt_of I.hok e
  have hz : xs.length ≤ sizeLine := by rw [← Paired.length rel]; exact z
  have hl : (putK kvs k v).length ≤ sizeLine := by have := length_putK kvs k v; omega
  refine wpAny_dictSet_heap (hsz := hz) (show A.units < cLine by omega) (key_of I.hok eb) dd fun h' dd' hs => h _ ?_
  obtain ⟨q, es, ep, hq, h2, h3, h4, _, h5⟩ := dd'
  refine d_write I (by rw [e]; exact True.intro) hs ⟨q, hq⟩ ⟨hl, hd, _, (rel.put k eb rv).keeps fun c ys ec => ?_, q, es, ep, hq, h2, h3, h4, h5⟩
  rw [upd_ne (ne_of ec e (fun z => nomatch z))]
  exact ec
def tDisp1 (tk tv : TE) : TE := fun σ H Q => ∀ p, H p = none → tk σ (upd H p (.dT [])) fun x H1 => tv σ H1 fun y H2 => H2 p = some (.dT []) ∧ ∃ (b : Addr) (k : List Key), x = .ref b ∧ H2 b = some (.tup (k.map kV)) ∧ Q (.ref p) (upd H2 p (.dT [(k, y)]))
theorem pe_disp1 {k v : Expr} {tk tv : TE} {pos : Pos} (hu : X.A.units + 1 < cLine) (hk : PE X k tk) (hv : PE X v tv) : PE X (.Dict [some k] [v] pos) (tDisp1 tk tv) := by
  intro pins s σ H Q I q
  have hn := I.hok.fresh (Nat.le_refl s.heap.objs.size)
  have I1 := I.laid (a := s.heap.objs.size) (o := .dT []) (h' := s.heap.push { cls := .type "dict", data := .dict #[] }) (t' := s.toks) (fun _ _ q => Heap.get?_push_of_some _ q) (Nat.le_refl _) (dt_empty s.heap I.big)
  have hl := pairTrees_length [some k] [v] X.env pos rfl rfl
  rw [arm_eval_Dict, zip_pairTrees [some k] [v] X.env pos rfl rfl, dictDisplay_pairs (pairTrees [some k] [v] X.env pos) (fun z => by rw [z] at hl; cases hl) (by rw [hl]; show 1 < 17; decide)]
  refine wpAny_bind (wpAny_standAt (wpAny_bind ?_))
  unfold subDict
  refine wpAny_bind (wpAny_alloc ?_)
  refine wpAny_bind (wpAny_holding ?_)
  rw [if_pos (by rw [hl]; show 1 ≤ 15; decide)]
  refine wpAny_bind (pairTrees_cons_walk (thn (hk pins _ σ _ _ I1 (q _ hn)) fun ku s1 ⟨x, H1, I2, rx, q1⟩ => thn (hv pins s1 σ H1 _ I2 q1) fun vu s2 ⟨y, H2, I3, ry, hp, b, kk, ex, hb, q2⟩ => pairTrees_nil_walk ?_))
  subst ex
  cases (show ku = Value.ref b from rx)
  refine wpAny_holding ?_
  show wpAny _ _ (forIn [(Value.ref b, vu)] PUnit.unit _ >>= _) _ _ _
  rw [List.forIn_cons]
  refine wpAny_bind (wpAny_bind (wpAny_bind (d_dictSet hu I3 hp hb (by decide) ry fun s' I4 => wpAny_pure ?_)))
  show wpAny _ _ (forIn [] PUnit.unit _) _ _ s'
  rw [List.forIn_nil]
  refine wpAny_pure (wpAny_pure (wpAny_pure (wpAny_pure ⟨.ref _, _, I4, rfl, q2⟩)))
end
end L2
namespace L2
open PySem PySem.Spec PyProof.Rows
abbrev Tn := Int × Int
def tupT (p : Tn) : HO := .tup [.int p.1, .int p.2]
def TPs (H : Hp) (as : List Addr) (ps : List Tn) : Prop := Paired (fun a p => H a = some (tupT p)) as ps
def TL (H : Hp) (l : Addr) (ps : List Tn) : Prop := ∃ as : List Addr, H l = some (.lst (as.map V.ref)) ∧ TPs H as ps
def kT (p : Tn) : List Key := [.inl p.1, .inl p.2]
theorem kT_inj {p q : Tn} (h : kT p = kT q) : p = q := by
  obtain ⟨a, b⟩ := p
  obtain ⟨c, d⟩ := q
  simp only [kT, List.cons.injEq, Sum.inl.injEq, and_true] at h
  rw [h.1, h.2]
theorem kT_tup {H : Hp} {t : Addr} {p : Tn} (h : H t = some (tupT p)) : H t = some (.tup ((kT p).map kV)) := h
theorem TPs.same {H H' : Hp} {as : List Addr} {ps : List Tn} (h : TPs H as ps) (s : Same H H') : TPs H' as ps := Paired.mapP h fun a p e => s _ _ e
theorem TL.same {H H' : Hp} {l : Addr} {ps : List Tn} (h : TL H l ps) (s : Same H H') : TL H' l ps := by
  obtain ⟨as, h1, h2⟩ := h
  exact ⟨as, s _ _ h1, h2.same s⟩
theorem TPs.upd {H : Hp} {as : List Addr} {ps : List Tn} {l : Addr} {o o' : HO} (h : TPs H as ps) (hl : H l = some o) (ho : ∀ p, o ≠ tupT p) : TPs (L2.upd H l o') as ps := Paired.mapP h fun a p e => by
  have ne : a ≠ l := fun z => by
    rw [z, hl] at e
    exact ho p (Option.some.inj e)
  show L2.upd H l o' a = _
  rw [upd_ne ne]
  exact e
theorem TPs.new {H : Hp} {as : List Addr} {ps : List Tn} {l : Addr} {o' : HO} (h : TPs H as ps) (hl : H l = none) : TPs (L2.upd H l o') as ps := h.same (Same.new hl)
theorem lst_ne (xs : List V) (p : Tn) : HO.lst xs ≠ tupT p := fun z => nomatch z
theorem dT_ne (xs : List (List Key × V)) (p : Tn) : HO.dT xs ≠ tupT p := fun z => nomatch z
theorem TL.upd {H : Hp} {l m : Addr} {ps : List Tn} {o o' : HO} (h : TL H l ps) (hm : H m = some o) (ho : ∀ p, o ≠ tupT p) (ne : l ≠ m) : TL (L2.upd H m o') l ps := by
  obtain ⟨as, h1, h2⟩ := h
  exact ⟨as, by rw [upd_ne ne]; exact h1, h2.upd hm ho⟩
theorem TL.push {H : Hp} {l t : Addr} {as : List Addr} {ps : List Tn} {p : Tn} (h1 : H l = some (.lst (as.map V.ref))) (h2 : TPs H as ps) (ht : H t = some (tupT p)) : TL (L2.upd H l (.lst (as.map V.ref ++ [.ref t]))) l (ps ++ [p]) := by
  refine ⟨as ++ [t], by rw [upd_same, List.map_append]; rfl, ?_⟩
  exact TPs.upd (Paired.snoc h2 ht) h1 (lst_ne _)
theorem TPs.len {H : Hp} {as : List Addr} {ps : List Tn} (h : TPs H as ps) : as.length = ps.length := Paired.length h
def PD (H : Hp) (r : Addr) (g : Addr → Prop) (es : List (Tn × List Tn)) : Prop := ∃ kvs : List (List Key × V), H r = some (.dT kvs) ∧ Paired (fun kv e => kv.1 = kT e.1 ∧ ∃ l, kv.2 = V.ref l ∧ g l ∧ TL H l e.2) kvs es
theorem PD.same {H H' : Hp} {r : Addr} {g : Addr → Prop} {es : List (Tn × List Tn)} (h : PD H r g es) (s : Same H H') : PD H' r g es := by
  obtain ⟨kvs, h1, h2⟩ := h
  exact ⟨kvs, s _ _ h1, Paired.mapP h2 fun kv e ⟨a, l, b, c, d⟩ => ⟨a, l, b, c, d.same s⟩⟩
theorem PD.look {H : Hp} {g : Addr → Prop} : ∀ {kvs : List (List Key × V)} {es : List (Tn × List Tn)} (p : Tn), Paired (fun kv e => kv.1 = kT e.1 ∧ ∃ l, kv.2 = V.ref l ∧ g l ∧ TL H l e.2) kvs es →
    (valV kvs (kT p) = none ∧ ¬ (∃ c, (p, c) ∈ es)) ∨ ∃ l c, valV kvs (kT p) = some (.ref l) ∧ (p, c) ∈ es ∧ g l ∧ TL H l c
  | _, _, p, .nil => .inl ⟨rfl, fun ⟨c, h⟩ => absurd h (by simp)⟩
  | _, _, p, @Paired.cons _ _ _ kv e _ _ h t => by
    obtain ⟨h1, l, h2, h3, h4⟩ := h
    by_cases z : e.1 = p
    · refine .inr ⟨l, e.2, by rw [valV_pos (by rw [h1, z]), h2], ?_, h3, h4⟩
      rw [← z]
      exact List.mem_cons_self
    · have ne : ¬ kv.1 = kT p := fun q => z (kT_inj (h1.symm.trans q))
      rw [valV_neg ne]
      rcases PD.look p t with ⟨a, b⟩ | ⟨l', c, a, b, d⟩
      · refine .inl ⟨a, fun ⟨c, hc⟩ => ?_⟩
        rcases List.mem_cons.mp hc with q | q
        · exact z (by rw [← q])
        · exact b ⟨c, q⟩
      · exact .inr ⟨l', c, a, List.mem_cons_of_mem _ b, d⟩
theorem PD.len {H : Hp} {g : Addr → Prop} {kvs : List (List Key × V)} {es : List (Tn × List Tn)} (h : Paired (fun kv e => kv.1 = kT e.1 ∧ ∃ l, kv.2 = V.ref l ∧ g l ∧ TL H l e.2) kvs es) : kvs.length = es.length := Paired.length h
end L2
namespace L2
open PySem PySem.Spec PyProof.Rows
theorem c_norm {K : PySem.W.Frag} {lw l2 : Addr} {n : Nat} {ws : List (List Int)} {H : Hp} {Q : Hp → Prop} (hW : WL H lw ws) (hlen : ws.length ≤ 100) (h8 : n ≤ 8) (hg : ∀ w ∈ ws, Sh.Good n w) (f2 : H l2 = none) (q : ∀ H', Same H H' → WLx H' l2 (ws.map Sh.norm) → Q H') :
    cLoop (Itl K lw) l2 (gName 0) (fun _ H Q => Q true H) (tSortSet K (tVar 0)) [none] (upd H l2 (.lst [])) Q := by
  obtain ⟨as, hA, hP⟩ := hW
  have lenA : as.length = ws.length := Paired.length hP
  refine c_list (K := K) (a := lw) (xs := as.map V.ref) (fun i ys σ H' => ∃ u, σ = [u] ∧ Same H H' ∧ H' l2 = some (.lst ys) ∧ ∃ cs : List Addr, ys = cs.map V.ref ∧ Paired (fun c w => c ≠ l2 ∧ H' c = some (.lst (w.map V.int))) cs ((ws.map Sh.norm).take i))
    ⟨none, rfl, Same.new f2, upd_same, [], rfl, .nil⟩ (fun i ys σ H' _ ⟨_, _, s5, _⟩ => SqL.of (s5 _ _ hA)) ?_ ?_
  · rintro i x ys σ H' hi ⟨u, rfl, s5, hL, cs, rfl, hC⟩
    rw [List.getElem?_map] at hi
    cases e : as[i]? with
    | none => rw [e] at hi; cases hi
    | some b =>
      rw [e] at hi
      obtain rfl : V.ref b = x := Option.some.inj hi
      obtain ⟨w', h1', h2'⟩ := paired_get1 hP e
      refine ⟨_, rfl, b, w', rfl, SqL.of (s5 _ _ h2'), fun z hz => ?_, fun c fc => ?_⟩
      · have := (hg w' (List.mem_of_getElem? h1')).1 z hz
        omega
      have nl : l2 ≠ c := fun e => by rw [← e, hL] at fc; cases fc
      refine ⟨by rw [upd_ne nl]; exact hL, ?_, _, rfl, (s5.trans (Same.new fc)).put f2, upd_same, cs ++ [c], ?_, ?_⟩
      · rw [List.length_map, Paired.length hC]
        have := List.length_take_le' i (ws.map Sh.norm)
        rw [List.length_map] at this
        exact small1000 (by omega)
      · rw [List.map_append]
        rfl
      · rw [List.take_add_one, List.getElem?_map, h1']
        refine Paired.snoc (Paired.mapP hC fun d w ⟨n1, e⟩ => ⟨n1, ?_⟩) ⟨Ne.symm nl, ?_⟩
        · have nc : d ≠ c := fun q => by rw [q, fc] at e; cases e
          rw [upd_ne n1, upd_ne nc]
          exact e
        · rw [upd_ne (Ne.symm nl)]
          exact upd_same
  · rintro ys σ H' ⟨u, rfl, s5, hL, cs, rfl, hC⟩
    rw [List.length_map, lenA, ← List.length_map (f := Sh.norm), List.take_length] at hC
    exact q H' s5 ⟨cs, hL, hC⟩
end L2
namespace L2
open PySem PySem.Spec PyProof.Rows
theorem PD.put {H : Hp} {r lf l : Addr} {g : Addr → Prop} {kvs : List (List Key × V)} {es : List (Tn × List Tn)} {p : Tn} {c : List Tn} {fs : List V} {o' : HO} (hK : H r = some (.dT kvs)) (hP : Paired (fun kv e => kv.1 = kT e.1 ∧ ∃ l, kv.2 = V.ref l ∧ g l ∧ TL H l e.2) kvs es)
    (hv : valV kvs (kT p) = none) (hl : TL H l c) (gl : g l) (hg : ∀ l, g l → l ≠ lf) (hlf : H lf = some (.lst fs)) : PD (upd (upd H r (.dT (putK kvs (kT p) (.ref l)))) lf o') r g (es ++ [(p, c)]) := by
  have nr : r ≠ lf := fun z => by rw [z, hlf] at hK; cases hK
  have hlf' : upd H r (.dT (putK kvs (kT p) (.ref l))) lf = some (.lst fs) := by rw [upd_ne (Ne.symm nr)]; exact hlf
  have key : ∀ {l' c'}, g l' → TL H l' c' → TL (upd (upd H r (.dT (putK kvs (kT p) (.ref l)))) lf o') l' c' := fun {l' c'} g' t' => by
    refine TL.upd (TL.upd t' hK (dT_ne _) fun z => ?_) hlf' (lst_ne _) (hg l' g')
    obtain ⟨_, a, _⟩ := t'
    rw [z, hK] at a
    cases a
  rw [putK_new _ hv] at key ⊢
  refine ⟨_, by rw [upd_ne nr, upd_same], ?_⟩
  exact Paired.snoc (Paired.mapP hP fun kv e ⟨a1, l', a2, a3, a4⟩ => ⟨a1, l', a2, a3, key a3 a4⟩) ⟨rfl, l, rfl, gl, key gl hl⟩
theorem DGet.tv {H : Hp} {a b : Addr} {kvs : List (List Key × V)} {p : Tn} {v : V} (e : H a = some (.dT kvs)) (eb : H b = some (tupT p)) (hv : valV kvs (kT p) = some v) : DGet H a (.ref b) (some v) := by
  rw [← hv]
  exact DGet.t e (kT_tup eb)
def PR (H : Hp) (r : Addr) (g : Addr → Prop) (es : List (Tn × List Tn)) : Prop := ∃ kvs : List (List Key × V), Rd H r (.dT kvs) ∧ Paired (fun kv e => kv.1 = kT e.1 ∧ ∃ l, kv.2 = V.ref l ∧ g l ∧ TL H l e.2) kvs es
theorem Rd.same {H H' : Hp} {a : Addr} {u : HO} (h : Rd H a u) (s : Same H H') : Rd H' a u := h.imp (fun z => s _ _ z) fun ⟨o, z⟩ => ⟨o, s _ _ z⟩
theorem DGet.tvr {H : Hp} {a b : Addr} {kvs : List (List Key × V)} {p : Tn} {v : V} (e : Rd H a (.dT kvs)) (eb : H b = some (tupT p)) (hv : valV kvs (kT p) = some v) : DGet H a (.ref b) (some v) := by
  rw [← hv]
  exact .inr ⟨kvs, kT p, b, e, rfl, kT_tup eb, rfl⟩
end L2

namespace Sh
theorem scan_tt {α : Type} (f : α → Bool) : ∀ l : List α, scan f true true l = true ↔ ∀ x ∈ l, f x = false
  | [] => by simp [scan]
  | x :: r => by
    have ih := scan_tt f r
    by_cases hx : f x = true
    · simp [scan, hx]
    · have hx' : f x = false := by simpa using hx
      simp only [scan, hx', Bool.false_eq_true, if_false, if_true, List.mem_cons, forall_eq_or_imp, true_and]
      exact ih
theorem scan_tf {α : Type} (f : α → Bool) : ∀ l : List α, scan f true false l = true ↔ ∀ a b r, l = a ++ b :: r → f b = true ∨ ∀ x ∈ r, f x = false
  | [] => by
    constructor
    · intro _ a b r e
      have := congrArg List.length e
      simp at this
    · intro _
      simp [scan]
  | x :: t => by
    by_cases hx : f x = true
    · have ih := scan_tf f t
      have e : scan f true false (x :: t) = scan f true false t := by simp [scan, hx]
      rw [e, ih]
      constructor
      · intro h a b r q
        cases a with
        | nil =>
          have : x = b := by simpa using (List.cons.inj q).1
          subst this
          exact .inl hx
        | cons y a => exact h a b r (List.cons.inj q).2
      · intro h a b r q
        exact h (x :: a) b r (by rw [q]; rfl)
    · have e : scan f true false (x :: t) = scan f true true t := by simp [scan, hx]
      rw [e, scan_tt]
      constructor
      · intro h a b r q
        cases a with
        | nil =>
          have q2 : t = r := (List.cons.inj q).2
          subst q2
          exact .inr h
        | cons y a =>
          have q2 : t = a ++ b :: r := (List.cons.inj q).2
          refine .inr fun z hz => h z ?_
          rw [q2]
          exact List.mem_append_right _ (List.mem_cons_of_mem _ hz)
      · intro h
        rcases h [] x t rfl with q | q
        · exact absurd q hx
        · exact q
theorem scan_ff {α : Type} (f : α → Bool) : ∀ l : List α, scan f false false l = true ↔ ∀ a b r, l = a ++ b :: r → f b = true ∨ (∀ x ∈ a, f x = false) ∨ ∀ x ∈ r, f x = false
  | [] => by
    constructor
    · intro _ a b r e
      have := congrArg List.length e
      simp at this
    · intro _
      simp [scan]
  | x :: t => by
    by_cases hx : f x = true
    · have e : scan f false false (x :: t) = scan f true false t := by simp [scan, hx]
      rw [e, scan_tf]
      constructor
      · intro h a b r q
        cases a with
        | nil => exact .inr (.inl fun z hz => absurd hz (by simp))
        | cons y a =>
          rcases h a b r (List.cons.inj q).2 with z | z
          · exact .inl z
          · exact .inr (.inr z)
      · intro h a b r q
        rcases h (x :: a) b r (by rw [q]; rfl) with z | z | z
        · exact .inl z
        · have := z x List.mem_cons_self
          rw [hx] at this
          cases this
        · exact .inr z
    · have hx' : f x = false := by simpa using hx
      have ih := scan_ff f t
      have e : scan f false false (x :: t) = scan f false false t := by simp [scan, hx]
      rw [e, ih]
      constructor
      · intro h a b r q
        cases a with
        | nil => exact .inr (.inl fun z hz => absurd hz (by simp))
        | cons y a =>
          have q1 : x = y := (List.cons.inj q).1
          subst q1
          rcases h a b r (List.cons.inj q).2 with z | z | z
          · exact .inl z
          · refine .inr (.inl fun u hu => ?_)
            rcases List.mem_cons.mp hu with rfl | hu
            · exact hx'
            · exact z u hu
          · exact .inr (.inr z)
      · intro h a b r q
        rcases h (x :: a) b r (by rw [q]; rfl) with z | z | z
        · exact .inl z
        · exact .inr (.inl fun u hu => z u (List.mem_cons_of_mem _ hu))
        · exact .inr (.inr z)
theorem tog_iff {os w : List Int} : tog os w = true ↔ ∀ a b r, os = a ++ b :: r → b ∈ w ∨ (∀ x ∈ a, x ∉ w) ∨ ∀ x ∈ r, x ∉ w := by
  unfold tog
  rw [scan_ff]
  simp only [decide_eq_true_iff, decide_eq_false_iff_not]
theorem nodup_of_splits {α : Type} : ∀ {l : List α}, (∀ a b r, l = a ++ b :: r → b ∉ a) → l.Nodup
  | [], _ => List.nodup_nil
  | x :: t, h => by
    refine List.nodup_cons.mpr ⟨fun hx => ?_, nodup_of_splits fun a b r e hb => h (x :: a) b r (by rw [e]; rfl) (List.mem_cons_of_mem _ hb)⟩
    obtain ⟨a, r, e⟩ := List.append_of_mem hx
    exact h (x :: a) x r (by rw [e]; rfl) List.mem_cons_self
theorem nodup_split {α : Type} {l a r : List α} {b : α} (nd : l.Nodup) (e : l = a ++ b :: r) : b ∉ a ∧ b ∉ r ∧ ∀ x ∈ a, x ∉ r := by
  subst e
  rw [List.nodup_append] at nd
  obtain ⟨h1, h2, h3⟩ := nd
  refine ⟨fun hb => h3 b hb b List.mem_cons_self rfl, (List.nodup_cons.mp h2).1, fun x hx hr => h3 x hx x (List.mem_cons_of_mem _ hr) rfl⟩
theorem perm_of_nodup {α : Type} : ∀ {l m : List α}, l.Nodup → (∀ x ∈ l, x ∈ m) → m.length ≤ l.length → l.Perm m
  | [], m, _, _, h => by
    have : m = [] := by
      cases m with
      | nil => rfl
      | cons _ _ => simp at h
    rw [this]
  | x :: t, m, nd, sub, h => by
    obtain ⟨s, u, e⟩ := List.append_of_mem (sub x List.mem_cons_self)
    have nd' := List.nodup_cons.mp nd
    have hl : (s ++ u).length ≤ t.length := by
      rw [e] at h
      simp only [List.length_append, List.length_cons] at h ⊢
      omega
    have ih := perm_of_nodup (l := t) (m := s ++ u) nd'.2 (fun y hy => by
      have h1 := sub y (List.mem_cons_of_mem _ hy)
      rw [e] at h1
      rcases List.mem_append.mp h1 with h1 | h1
      · exact List.mem_append_left _ h1
      · rcases List.mem_cons.mp h1 with rfl | h1
        · exact absurd hy nd'.1
        · exact List.mem_append_right _ h1) hl
    rw [e]
    exact (ih.cons x).trans List.perm_middle.symm
theorem rangeI_nodup (n : Nat) : (rangeI n).Nodup := by
  unfold rangeI
  refine List.Pairwise.map _ (fun a b h => ?_) (List.nodup_range (n := n))
  omega
theorem rangeI_lt (n : Nat) : (rangeI n).Pairwise (· < ·) := by
  unfold rangeI
  rw [List.pairwise_map]
  exact List.pairwise_lt_range.imp fun h => by omega
def okB (ws : List (List Int)) (bg : List Int) (b : Int) : Bool := ws.all fun w => decide (b ∈ w) || (w.all fun x => decide (x ∉ bg)) || (w.all fun x => decide (x ∈ bg))
def nxt (many : Nat) (ws : List (List Int)) (bg : List Int) : List Int := (rangeI many).filter fun b => decide (b ∉ bg) && okB ws bg b
theorem okB_iff {ws : List (List Int)} {bg : List Int} {b : Int} : okB ws bg b = true ↔ ∀ w ∈ ws, b ∈ w ∨ (∀ x ∈ w, x ∉ bg) ∨ ∀ x ∈ w, x ∈ bg := by
  unfold okB
  rw [List.all_eq_true]
  simp only [Bool.or_eq_true, List.all_eq_true, decide_eq_true_iff, or_assoc]
theorem mem_nxt {many : Nat} {ws : List (List Int)} {bg : List Int} {b : Int} : b ∈ nxt many ws bg ↔ (0 ≤ b ∧ b < many) ∧ b ∉ bg ∧ ∀ w ∈ ws, b ∈ w ∨ (∀ x ∈ w, x ∉ bg) ∨ ∀ x ∈ w, x ∈ bg := by
  unfold nxt
  rw [List.mem_filter, mem_rangeI, Bool.and_eq_true, okB_iff, decide_eq_true_iff]
theorem nxt_lt (many : Nat) (ws : List (List Int)) (bg : List Int) : (nxt many ws bg).Pairwise (· < ·) := (rangeI_lt many).filter _
theorem nxt_congr {many : Nat} {ws : List (List Int)} {bg bg' : List Int} (h : ∀ x, x ∈ bg ↔ x ∈ bg') : nxt many ws bg = nxt many ws bg' := by
  unfold nxt okB
  congr 1
  funext b
  simp only [h]
theorem nxt_len (many : Nat) (ws : List (List Int)) (bg : List Int) : (nxt many ws bg).length ≤ many := by
  unfold nxt
  have := List.length_filter_le (fun b => decide (b ∉ bg) && okB ws bg b) (rangeI many)
  rw [rangeI_len] at this
  exact this
def Walk (many : Nat) (ws : List (List Int)) (bg t : List Int) : Prop := ∀ a b r, t = a ++ b :: r → b ∈ nxt many ws (bg ++ a)
theorem walk_nil {many : Nat} {ws : List (List Int)} {bg : List Int} : Walk many ws bg [] := fun a b r e => by
  have := congrArg List.length e
  simp at this
theorem walk_cons {many : Nat} {ws : List (List Int)} {bg t : List Int} {b : Int} : Walk many ws bg (b :: t) ↔ b ∈ nxt many ws bg ∧ Walk many ws (bg ++ [b]) t := by
  constructor
  · intro h
    refine ⟨by have := h [] b t rfl; rwa [List.append_nil] at this, fun a c r e => ?_⟩
    have := h (b :: a) c r (by rw [e]; rfl)
    rwa [List.append_assoc]
  · rintro ⟨h1, h2⟩ a c r e
    cases a with
    | nil =>
      have : b = c := (List.cons.inj e).1
      subst this
      rwa [List.append_nil]
    | cons d a =>
      have e1 : b = d := (List.cons.inj e).1
      subst e1
      have := h2 a c r (List.cons.inj e).2
      rwa [List.append_assoc] at this
def IsO (many : Nat) (os : List Int) : Prop := os.Perm (rangeI many)
def Kp (ws : List (List Int)) (os : List Int) : Bool := ws.all fun w => tog os w
theorem kp_iff {ws : List (List Int)} {os : List Int} : Kp ws os = true ↔ ∀ w ∈ ws, tog os w = true := by
  unfold Kp
  rw [List.all_eq_true]
def InB (many : Nat) (ws : List (List Int)) : Prop := ∀ w ∈ ws, ∀ b ∈ w, 0 ≤ b ∧ b < (many : Int)
theorem IsO.nodup {many : Nat} {os : List Int} (h : IsO many os) : os.Nodup := h.nodup_iff.mpr (rangeI_nodup many)
theorem IsO.len {many : Nat} {os : List Int} (h : IsO many os) : os.length = many := h.length_eq.trans (rangeI_len many)
theorem IsO.mem {many : Nat} {os : List Int} (h : IsO many os) {x : Int} : x ∈ os ↔ 0 ≤ x ∧ x < many := h.mem_iff.trans mem_rangeI
theorem walk_iff {many : Nat} {ws : List (List Int)} {os : List Int} (hg : InB many ws) (hl : os.length = many) : Walk many ws [] os ↔ IsO many os ∧ Kp ws os = true := by
  constructor
  · intro h
    have nd : os.Nodup := nodup_of_splits fun a b r e => by
      have := (mem_nxt.mp (h a b r e)).2.1
      rwa [List.nil_append] at this
    have rg : ∀ x ∈ os, x ∈ rangeI many := fun x hx => by
      obtain ⟨a, r, e⟩ := List.append_of_mem hx
      exact mem_rangeI.mpr (mem_nxt.mp (h a x r e)).1
    refine ⟨perm_of_nodup nd rg (by rw [rangeI_len]; omega), kp_iff.mpr fun w hw => tog_iff.mpr fun a b r e => ?_⟩
    rcases (mem_nxt.mp (h a b r e)).2.2 w hw with q | q | q
    · exact .inl q
    · refine .inr (.inl fun x hx hxw => ?_)
      exact q x hxw (by rwa [List.nil_append])
    · refine .inr (.inr fun x hx hxw => ?_)
      have := q x hxw
      rw [List.nil_append] at this
      exact (nodup_split nd e).2.2 x this hx
  · rintro ⟨ho, hk⟩ a b r e
    rw [List.nil_append]
    have nd := ho.nodup
    have hb : b ∈ os := by rw [e]; simp
    refine mem_nxt.mpr ⟨ho.mem.mp hb, (nodup_split nd e).1, fun w hw => ?_⟩
    rcases tog_iff.mp (kp_iff.mp hk w hw) a b r e with q | q | q
    · exact .inl q
    · exact .inr (.inl fun x hx hxa => q x hxa hx)
    · by_cases hbw : b ∈ w
      · exact .inl hbw
      · refine .inr (.inr fun x hx => ?_)
        have hxo : x ∈ os := ho.mem.mpr (hg w hw x hx)
        rw [e] at hxo
        rcases List.mem_append.mp hxo with z | z
        · exact z
        · rcases List.mem_cons.mp z with rfl | z
          · exact absurd hx hbw
          · exact absurd hx (q x z)
def lle : List Int → List Int → Bool
  | [], _ => true
  | _ :: _, [] => false
  | x :: a, y :: b => decide (x < y) || (decide (x = y) && lle a b)
def tl (many : Nat) (ws : List (List Int)) : Nat → List Int → Option (List Int)
  | 0, _ => some []
  | n + 1, bg => (nxt many ws bg).findSome? fun b => (tl many ws n (bg ++ [b])).map (b :: ·)
theorem tl_some {many : Nat} {ws : List (List Int)} : ∀ {n : Nat} {bg t : List Int}, tl many ws n bg = some t → t.length = n ∧ Walk many ws bg t
  | 0, bg, t, h => by
    have : [] = t := Option.some.inj h
    subst this
    exact ⟨rfl, walk_nil⟩
  | n + 1, bg, t, h => by
    obtain ⟨b, hb, e⟩ := List.exists_of_findSome?_eq_some h
    cases q : tl many ws n (bg ++ [b]) with
    | none => rw [q] at e; cases e
    | some u =>
      rw [q] at e
      have e2 : b :: u = t := Option.some.inj e
      subst e2
      obtain ⟨h1, h2⟩ := tl_some q
      exact ⟨by rw [List.length_cons, h1], walk_cons.mpr ⟨hb, h2⟩⟩
theorem findSome_least {β : Type} {f : Int → Option β} : ∀ {l : List Int} {b : Int} {z : β}, l.Pairwise (· < ·) → b ∈ l → f b = some z → ∃ c y, c ∈ l ∧ f c = some y ∧ l.findSome? f = some y ∧ c ≤ b
  | [], _, _, _, h, _ => by simp at h
  | x :: l, b, z, p, hb, hz => by
    cases q : f x with
    | some y =>
      refine ⟨x, y, List.mem_cons_self, q, by rw [List.findSome?_cons, q], ?_⟩
      rcases List.mem_cons.mp hb with rfl | hb
      · omega
      · have := (List.pairwise_cons.mp p).1 b hb
        omega
    | none =>
      rcases List.mem_cons.mp hb with rfl | hb
      · rw [hz] at q
        cases q
      · obtain ⟨c, y, h1, h2, h3, h4⟩ := findSome_least (List.pairwise_cons.mp p).2 hb hz
        exact ⟨c, y, List.mem_cons_of_mem _ h1, h2, by rw [List.findSome?_cons, q]; exact h3, h4⟩
theorem tl_least {many : Nat} {ws : List (List Int)} : ∀ {n : Nat} {bg t : List Int}, t.length = n → Walk many ws bg t → ∃ u, tl many ws n bg = some u ∧ lle u t = true
  | 0, bg, t, h, _ => by
    have : t = [] := List.length_eq_zero_iff.mp h
    subst this
    exact ⟨[], rfl, rfl⟩
  | n + 1, bg, [], h, _ => by simp at h
  | n + 1, bg, b :: t, h, hw => by
    obtain ⟨hb, hw'⟩ := walk_cons.mp hw
    obtain ⟨u, hu, hle⟩ := tl_least (n := n) (bg := bg ++ [b]) (t := t) (by simpa using h) hw'
    have fb : (fun b => (tl many ws n (bg ++ [b])).map (b :: ·)) b = some (b :: u) := by simp [hu]
    obtain ⟨c, y, h1, h2, h3, h4⟩ := findSome_least (f := fun b => (tl many ws n (bg ++ [b])).map (b :: ·)) (nxt_lt many ws bg) hb fb
    refine ⟨y, h3, ?_⟩
    cases q : tl many ws n (bg ++ [c]) with
    | none => simp [q] at h2
    | some v =>
      have e : c :: v = y := by simpa [q] using h2
      subst e
      simp only [lle, Bool.or_eq_true, Bool.and_eq_true, decide_eq_true_iff]
      by_cases hc : c < b
      · exact .inl hc
      · have e : c = b := by omega
        subst e
        rw [hu] at q
        have e2 : u = v := Option.some.inj q
        subst e2
        exact .inr ⟨rfl, hle⟩
theorem tl_congr {many : Nat} {ws : List (List Int)} : ∀ {n : Nat} {bg bg' : List Int}, (∀ x, x ∈ bg ↔ x ∈ bg') → tl many ws n bg = tl many ws n bg'
  | 0, _, _, _ => rfl
  | n + 1, bg, bg', h => by
    unfold tl
    rw [nxt_congr h]
    congr 1
    funext b
    rw [tl_congr (n := n) (bg := bg ++ [b]) (bg' := bg' ++ [b]) fun x => by simp [h]]
def fst (many : Nat) (ws : List (List Int)) : Option (List Int) := tl many ws many []
theorem fst_some {many : Nat} {ws : List (List Int)} {os : List Int} (hg : InB many ws) (h : fst many ws = some os) : IsO many os ∧ Kp ws os = true := by
  obtain ⟨h1, h2⟩ := tl_some h
  exact (walk_iff hg h1).mp h2
theorem fst_least {many : Nat} {ws : List (List Int)} {os : List Int} (hg : InB many ws) (ho : IsO many os) (hk : Kp ws os = true) : ∃ u, fst many ws = some u ∧ lle u os = true := tl_least ho.len ((walk_iff hg ho.len).mpr ⟨ho, hk⟩)
theorem fst_none {many : Nat} {ws : List (List Int)} (hg : InB many ws) : fst many ws = none ↔ ∀ os, IsO many os → ¬ Kp ws os = true := by
  constructor
  · intro h os ho hk
    obtain ⟨u, hu, _⟩ := fst_least hg ho hk
    rw [h] at hu
    cases hu
  · intro h
    cases q : fst many ws with
    | none => rfl
    | some os => exact absurd (fst_some hg q).2 (h os (fst_some hg q).1)
def bits (ns : List Int) : Nat := ns.foldl (fun a b => a ||| 2 ^ b.toNat) 0
theorem bits_snoc (ns : List Int) (b : Int) : bits (ns ++ [b]) = bits ns ||| 2 ^ b.toNat := by
  unfold bits
  rw [List.foldl_append]
  rfl
theorem testBit_foldl : ∀ (ns : List Int) (a k : Nat), (∀ b ∈ ns, 0 ≤ b) → (ns.foldl (fun a b => a ||| 2 ^ b.toNat) a).testBit k = (a.testBit k || decide ((k : Int) ∈ ns))
  | [], a, k, _ => by simp
  | b :: r, a, k, h => by
    rw [List.foldl_cons, testBit_foldl r _ k fun c hc => h c (List.mem_cons_of_mem _ hc), Nat.testBit_or, Nat.testBit_two_pow, Bool.or_assoc]
    congr 1
    have hb := h b List.mem_cons_self
    by_cases e : b.toNat = k
    · have : (k : Int) = b := by omega
      simp [this, e]
    · have : ¬ (k : Int) = b := by omega
      simp [this, e]
theorem testBit_bits {ns : List Int} (h : ∀ b ∈ ns, 0 ≤ b) (k : Nat) : (bits ns).testBit k = decide ((k : Int) ∈ ns) := by
  unfold bits
  rw [testBit_foldl ns 0 k h]
  simp
theorem bits_mem {ns ms : List Int} (h : ∀ b ∈ ns, 0 ≤ b) (h' : ∀ b ∈ ms, 0 ≤ b) (e : bits ns = bits ms) (x : Int) : x ∈ ns ↔ x ∈ ms := by
  by_cases hx : 0 ≤ x
  · have h1 := testBit_bits h x.toNat
    have h2 := testBit_bits h' x.toNat
    rw [e, h2] at h1
    have ex : ((x.toNat : Nat) : Int) = x := by omega
    rw [ex] at h1
    exact (decide_eq_decide.mp h1).symm
  · exact ⟨fun q => absurd (h x q) hx, fun q => absurd (h' x q) hx⟩
theorem bits_lt {ns : List Int} {m : Nat} (h : ∀ b ∈ ns, 0 ≤ b ∧ b < (m : Int)) : bits ns < 2 ^ m := by
  refine Nat.lt_pow_two_of_testBit _ fun k hk => ?_
  rw [testBit_bits fun b hb => (h b hb).1]
  refine decide_eq_false fun q => ?_
  have := (h _ q).2
  omega
theorem bits_and0 {ns ws : List Int} (h : ∀ b ∈ ns, 0 ≤ b) (h' : ∀ b ∈ ws, 0 ≤ b) : (bits ns &&& bits ws = 0) ↔ ∀ x ∈ ws, x ∉ ns := by
  constructor
  · intro e x hx hn
    have := congrArg (fun z => z.testBit x.toNat) e
    simp only [Nat.testBit_and, Nat.zero_testBit, testBit_bits h, testBit_bits h'] at this
    have ex : ((x.toNat : Nat) : Int) = x := by have := h x hn; omega
    rw [ex, decide_eq_true hx, decide_eq_true hn] at this
    cases this
  · intro q
    refine Nat.eq_of_testBit_eq fun k => ?_
    rw [Nat.testBit_and, Nat.zero_testBit, testBit_bits h, testBit_bits h']
    by_cases hk : (k : Int) ∈ ws
    · rw [decide_eq_false (q _ hk)]; rfl
    · rw [decide_eq_false hk, Bool.and_false]
theorem bits_andW {ns ws : List Int} (h : ∀ b ∈ ns, 0 ≤ b) (h' : ∀ b ∈ ws, 0 ≤ b) : (bits ns &&& bits ws = bits ws) ↔ ∀ x ∈ ws, x ∈ ns := by
  constructor
  · intro e x hx
    have := congrArg (fun z => z.testBit x.toNat) e
    simp only [Nat.testBit_and, testBit_bits h, testBit_bits h'] at this
    have ex : ((x.toNat : Nat) : Int) = x := by have := h' x hx; omega
    rw [ex, decide_eq_true hx, Bool.and_true] at this
    exact of_decide_eq_true this
  · intro q
    refine Nat.eq_of_testBit_eq fun k => ?_
    rw [Nat.testBit_and, testBit_bits h, testBit_bits h']
    by_cases hk : (k : Int) ∈ ws
    · rw [decide_eq_true (q _ hk), decide_eq_true hk]; rfl
    · rw [decide_eq_false hk, Bool.and_false]
theorem bits_has {ns : List Int} (h : ∀ b ∈ ns, 0 ≤ b) {x : Int} (hx : 0 ≤ x) : decide (((bits ns : Nat) : Int) / 2 ^ x.toNat % 2 = 1) = decide (x ∈ ns) := by
  have h1 := testBit_bits h x.toNat
  rw [Nat.testBit_eq_decide_div_mod_eq] at h1
  have ex : ((x.toNat : Nat) : Int) = x := by omega
  rw [ex] at h1
  rw [← h1]
  refine decide_eq_decide.mpr ?_
  have e : ((bits ns : Nat) : Int) / 2 ^ x.toNat % 2 = ((bits ns / 2 ^ x.toNat % 2 : Nat) : Int) := by
    simp
  rw [e]
  omega
end Sh
namespace L2
open PySem PySem.Spec PyProof.Rows
def aCls (mg : Str → Option Value) (x : Str) : Addr := match mg x with
  | some (.ref C) => C
  | _ => 0
theorem aCls_of {mg : Str → Option Value} {x : Str} {C : Addr} (h : mg x = some (.ref C)) : aCls mg x = C := by
  unfold aCls
  rw [h]
structure TMeth (K : PySem.W.Frag) (C : Addr) (m qual : Str) (st : Stmt) (ps : List Str) : Prop where
  ex : ∃ f fd, Fun K m qual st f fd ∧ Meth K C m f ∧ Binds K fd ps []
structure TMk (K : PySem.W.Frag) (C : Addr) (qual : Str) (st : Stmt) (ps : List Str) : Prop where
  ex : ∃ f fd, Fun K "__init__" qual st f fd ∧ Mk K C f ∧ Binds K fd ps []
structure CalM (P : Program) (w : World) (K : PySem.W.Frag) (mg : Str → Option Value) (base : Heap) (k : Nat) (C : Addr) (m : Str) (ps : List Str) (sp : Sp) : Prop where
  ex : ∃ f fd, FnOk P w K mg base CX0 k f fd ps sp ∧ Meth K C m f ∧ Binds K fd ps []
structure CalK (P : Program) (w : World) (K : PySem.W.Frag) (mg : Str → Option Value) (base : Heap) (k : Nat) (C : Addr) (ps : List Str) (sp : Sp) : Prop where
  ex : ∃ f fd, FnOk P w K mg base CX0 k f fd ps sp ∧ Mk K C f ∧ Binds K fd ps []
section
variable {P : Program} {w : World} {K : PySem.W.Frag} {mg : Str → Option Value} {base : Heap}
theorem TMeth.ok {C : Addr} {m qual : Str} {st : Stmt} {N ps : List Str} {k : Nat} {sp : Sp} (D : TMeth K C m qual st ps) (S : FnScope N ps (defScope st)) (len : ∀ vs H Q E, sp vs H Q E → vs.length = ps.length)
    (hbody : ∀ (f : Addr) (cdv : Value) (A : Around) (outer : List Env) (s : Shared) (H : Hp) (vs : List V) (Q : VK) (E : XK), Room k (A.deeper (envOfC qual (defScope st) s.heap.objs.size f cdv)) → sp vs H Q E →
      ∃ t, PSs (cxOf CX0 P w K mg base N qual (defScope st) f cdv A outer s H E).nox (defBody st) t ∧ t { nx := fun _ H' => Q .non H', rt := Q } (start N vs) H) : CalM P w K mg base (k + 1) C m ps sp := by
  obtain ⟨f, fd, F, hm, hb⟩ := D.ex
  exact ⟨f, fd, F.ok S len (hbody f), hm, hb⟩
theorem TMk.ok {C : Addr} {qual : Str} {st : Stmt} {N ps : List Str} {k : Nat} {sp : Sp} (D : TMk K C qual st ps) (S : FnScope N ps (defScope st)) (len : ∀ vs H Q E, sp vs H Q E → vs.length = ps.length)
    (hbody : ∀ (f : Addr) (cdv : Value) (A : Around) (outer : List Env) (s : Shared) (H : Hp) (vs : List V) (Q : VK) (E : XK), Room k (A.deeper (envOfC qual (defScope st) s.heap.objs.size f cdv)) → sp vs H Q E →
      ∃ t, PSs (cxOf CX0 P w K mg base N qual (defScope st) f cdv A outer s H E).nox (defBody st) t ∧ t { nx := fun _ H' => Q .non H', rt := Q } (start N vs) H) : CalK P w K mg base (k + 1) C ps sp := by
  obtain ⟨f, fd, F, hm, hb⟩ := D.ex
  exact ⟨f, fd, F.ok S len (hbody f), hm, hb⟩
theorem TMeth.none {C : Addr} {m qual : Str} {st : Stmt} {ps : List Str} {k : Nat} (D : TMeth K C m qual st ps) : CalM P w K mg base k C m ps (fun _ _ _ _ => False) := by
  obtain ⟨f, fd, F, hm, hb⟩ := D.ex
  exact ⟨f, fd, ⟨fun _ _ _ _ h => h.elim, fun _ _ _ _ _ _ _ _ _ _ _ _ _ h => h.elim⟩, hm, hb⟩
theorem tmeth_mk {C : Addr} {m qual : Str} {st : Stmt} {ps : List Str} {f : Addr} {fd : FuncData} (F : Fun K m qual st f fd) (hm : Meth K C m f) (hb : Binds K fd ps []) : TMeth K C m qual st ps := ⟨f, fd, F, hm, hb⟩
theorem tmk_mk {C : Addr} {qual : Str} {st : Stmt} {ps : List Str} {f : Addr} {fd : FuncData} (F : Fun K "__init__" qual st f fd) (hm : Mk K C f) (hb : Binds K fd ps []) : TMk K C qual st ps := ⟨f, fd, F, hm, hb⟩
end
section
variable {X : Cx} {k : Nat} {C : Addr} {x m : Str} {ps : List Str} {sp : Sp} {p pos apos : Pos} {o e : Expr} {es : List Expr} {t : TA} {ta : TE}
theorem pe_calm {pl : Sem Bool} (he : PE X o ta) (c : Cls X.K C) (G : CalM X.prog X.w X.K X.mg X.base k C m ps sp) (hr : Room k X.A) (ha : PA X (e :: es) t)
    (hst : starEach (e :: es) X.env = (false, eval e X.env) :: starEach es X.env := by rfl) (hpl : (backTo pos (starEach es X.env)).any (·.1) = false := by rfl)
    (ht : eval (.Call (.Attribute o m apos) (e :: es) [] pos) X.env = (do
      let ov ← eval o X.env
      standAt apos.atName
      let (f, first) ← holding [ov] (getMethod ov m pl)
      callWith pos f first (backTo pos (starEach (e :: es) X.env)) (backToKw pos (keywordEach [] X.env))) := by rfl) :
    PE X (.Call (.Attribute o m apos) (e :: es) [] pos) (tMeth C m sp [] E0 ta t) := by
  obtain ⟨f, fd, F, hm, hb⟩ := G.ex
  exact pe_meth he c hm F hr hb .nil pass0 ha hst hpl ht
theorem pe_calk (G : CalK X.prog X.w X.K X.mg X.base k C ps sp) (hr : Room (k + 1) X.A) (hg : Gl X x) (hm : X.mg x = some (.ref C)) (ha : PA X (e :: es) t)
    (hdb : (x == ("__debug__" : Str)) = false := by decide) (he : starEach (e :: es) X.env = (false, eval e X.env) :: starEach es X.env := by rfl) (hpl : (backTo pos (starEach es X.env)).any (·.1) = false := by rfl) :
    PE X (.Call (.Name x p) (e :: es) [] pos) (tMake C sp [] E0 t) := by
  obtain ⟨f, fd, F, M, hb⟩ := G.ex
  exact pe_make M F hr hg hm hb .nil pass0 ha hdb he hpl
end
theorem findSome_take {α β : Type} {f : α → Option β} {b : α} : ∀ {l : List α} {i : Nat}, l[i]? = some b → (l.take i).findSome? f = none → f b = none → (l.take (i + 1)).findSome? f = none := by
  intro l i hi h hb
  rw [List.take_add_one, hi, List.findSome?_append, h]
  simp [hb]
theorem findSome_at {α β : Type} {f : α → Option β} {b : α} {z : β} : ∀ {l : List α} {i : Nat}, l[i]? = some b → (l.take i).findSome? f = none → f b = some z → l.findSome? f = some z
  | [], _, h, _, _ => by simp at h
  | x :: l, 0, h, _, hz => by
    have : x = b := by simpa using h
    subst this
    rw [List.findSome?_cons, hz]
  | x :: l, i + 1, h, h0, hz => by
    rw [List.take_succ_cons, List.findSome?_cons] at h0
    cases q : f x with
    | some y => rw [q] at h0; cases h0
    | none =>
      rw [q] at h0
      rw [List.findSome?_cons, q]
      exact findSome_at (by simpa using h) h0 hz
theorem not_not_nat (a : Nat) : Builtin.bitNot (Builtin.bitNot (a : Int)) = (a : Int) := by
  unfold Builtin.bitNot
  omega
theorem or_nat (a b : Nat) : Builtin.bitOr (a : Int) (b : Int) = ((a ||| b : Nat) : Int) := by
  have n1 : ¬ (0 ≤ Builtin.bitNot (a : Int)) := by unfold Builtin.bitNot; omega
  have n2 : ¬ (0 ≤ Builtin.bitNot (b : Int)) := by unfold Builtin.bitNot; omega
  unfold Builtin.bitOr Builtin.bitAnd
  rw [decide_eq_false n1, decide_eq_false n2]
  show Builtin.bitNot (Builtin.bitNot (((Builtin.bitNot (Builtin.bitNot (a : Int))).toNat ||| (Builtin.bitNot (Builtin.bitNot (b : Int))).toNat : Nat) : Int)) = _
  rw [not_not_nat, not_not_nat, not_not_nat]
  rfl
theorem and_nat (a b : Nat) : Builtin.bitAnd (a : Int) (b : Int) = ((a &&& b : Nat) : Int) := by
  rw [PyProof.Rows.bitAnd_pp (Int.natCast_nonneg a) (Int.natCast_nonneg b)]
  simp
end L2
namespace Sh
def ords (many : Nat) : Nat → List (List Int)
  | 0 => [[]]
  | k + 1 => (ords many k).flatMap fun row => ((rangeI many).filter fun b => decide (b ∉ row)).map fun b => row ++ [b]
theorem ords_len (many : Nat) : ∀ k : Nat, (ords many k).length ≤ many ^ k
  | 0 => by simp [ords]
  | k + 1 => by
    have ih := ords_len many k
    unfold ords
    rw [List.length_flatMap]
    have h : ∀ l : List (List Int), (l.map fun row => (((rangeI many).filter fun b => decide (b ∉ row)).map fun b => row ++ [b]).length).sum ≤ l.length * many := by
      intro l
      induction l with
      | nil => simp
      | cons x r ih =>
        rw [List.map_cons, List.sum_cons, List.length_cons, Nat.succ_mul]
        have h1 := List.length_filter_le (fun b => decide (b ∉ x)) (rangeI many)
        rw [rangeI_len] at h1
        rw [List.length_map]
        omega
    refine Nat.le_trans (h _) ?_
    rw [Nat.pow_succ]
    exact Nat.mul_le_mul_right _ ih
def Lt (a b : List Int) : Prop := lle a b = true ∧ a ≠ b
def pick (ws : List (List Int)) (ids : List Int) : List (List Int) := ids.map fun i => ws.getD i.toNat []
def cl (p : List Int → Bool) (n : Nat) : Nat → List Int
  | 0 => rangeI n
  | k + 1 => if p ((cl p n k).filter fun x => decide (x ≠ (k : Int))) then (cl p n k).filter fun x => decide (x ≠ (k : Int)) else cl p n k
theorem cl_sub (p : List Int → Bool) (n : Nat) : ∀ k, ∀ x ∈ cl p n k, 0 ≤ x ∧ x < (n : Int)
  | 0, x, hx => mem_rangeI.mp hx
  | k + 1, x, hx => by
    unfold cl at hx
    split at hx
    · exact cl_sub p n k x (List.mem_filter.mp hx).1
    · exact cl_sub p n k x hx
theorem cl_len (p : List Int → Bool) (n : Nat) : ∀ k, (cl p n k).length ≤ n
  | 0 => by unfold cl; rw [rangeI_len]; exact Nat.le_refl _
  | k + 1 => by
    have ih := cl_len p n k
    unfold cl
    split
    · exact Nat.le_trans (List.length_filter_le _ _) ih
    · exact ih
theorem pick_good {many : Nat} {ws : List (List Int)} (hg : ∀ w ∈ ws, Good many w) {ids : List Int} (hi : ∀ x ∈ ids, 0 ≤ x ∧ x < (ws.length : Int)) : ∀ w ∈ pick ws ids, Good many w := by
  intro w hw
  obtain ⟨i, h1, rfl⟩ := List.mem_map.mp hw
  have := hi i h1
  have hlt : i.toNat < ws.length := by omega
  rw [List.getD_eq_getElem?_getD, List.getElem?_eq_getElem hlt]
  exact hg _ (List.getElem_mem hlt)
theorem good_inB {many : Nat} {ws : List (List Int)} (hg : ∀ w ∈ ws, Good many w) : InB many ws := fun w hw b hb => (hg w hw).1 b hb
end Sh
namespace Sh
end Sh
namespace L2
open PySem PySem.Spec PyProof.Rows
theorem c_drop {K : PySem.W.Frag} {la lo : Addr} {ids : List Int} {k : Int} {H : Hp} {Q : Hp → Prop} (hS : SqL K H la (ids.map V.int)) (hlen : ids.length ≤ 1000) (fo : H lo = none) (q : ∀ H', Same H H' → H' lo = some (.lst ((ids.filter fun x => decide (x ≠ k)).map V.int)) → Q H') :
    cLoop (Itl K la) lo (gName 0) (tTest (tOp rNe (tVar 0) (tVar 1))) (tVar 0) [none, some (.int k)] (upd H lo (.lst [])) Q := by
  refine c_list (K := K) (a := la) (xs := ids.map V.int) (fun j ys σ H' => ∃ u, σ = [u, some (.int k)] ∧ Same H H' ∧ H' lo = some (.lst ys) ∧ ys = (((ids.take j).filter fun x => decide (x ≠ k)).map V.int))
    ⟨none, rfl, Same.new fo, upd_same, rfl⟩ (fun j ys σ H' _ ⟨_, _, s, _⟩ => s.seq hS) ?_ ?_
  · rintro j x ys σ H' hj ⟨u, rfl, s, hL, rfl⟩
    rw [List.getElem?_map] at hj
    cases e : ids[j]? with
    | none => rw [e] at hj; cases hj
    | some z =>
      rw [e] at hj
      obtain rfl : V.int z = x := Option.some.inj hj
      refine ⟨_, rfl, _, rfl, rfl, _, rfl, ?_⟩
      have es : (ids.take (j + 1)).filter (fun x => decide (x ≠ k)) = (ids.take j).filter (fun x => decide (x ≠ k)) ++ (if z ≠ k then [z] else []) := by
        rw [List.take_add_one, e, List.filter_append]
        congr 1
        by_cases h : z = k
        · simp [h]
        · simp [h]
      by_cases h : z = k
      · rw [decide_eq_true (congrArg V.int h)]
        refine iteF ?_
        refine ⟨_, rfl, s, hL, ?_⟩
        rw [es, if_neg (by simpa using h), List.append_nil]
      · rw [decide_eq_false (fun e => h (V.int.inj e))]
        refine iteT ?_
        refine ⟨_, rfl, hL, ?_, _, rfl, s.put fo, upd_same, ?_⟩
        · rw [List.length_map]
          have h1 := List.length_filter_le (fun x => decide (x ≠ k)) (ids.take j)
          have h2 := List.length_take_le' j ids
          exact small1000 (by omega)
        · rw [es, if_pos h, List.map_append]
          rfl
  · rintro ys σ H' ⟨u, rfl, s, hL, rfl⟩
    rw [List.length_map, List.take_length] at hL
    exact q H' s hL
theorem c_pick {K : PySem.W.Frag} {lo lw lp : Addr} {ids : List Int} {ws : List (List Int)} {H : Hp} {Q : Hp → Prop} (hS : SqL K H lo (ids.map V.int)) (hW : WL H lw ws) (hi : ∀ x ∈ ids, 0 ≤ x ∧ x < (ws.length : Int)) (hlen : ids.length ≤ 1000) (fp : H lp = none) (q : ∀ H', Same H H' → WL H' lp (Sh.pick ws ids) → Q H') :
    cLoop (Itl K lo) lp (gName 0) (fun _ H Q => Q true H) (tOp (rIxL K) (tVar 1) (tVar 0)) [none, some (.ref lw)] (upd H lp (.lst [])) Q := by
  obtain ⟨as, hA, hP⟩ := hW
  refine c_list (K := K) (a := lo) (xs := ids.map V.int) (fun j ys σ H' => ∃ u, σ = [u, some (.ref lw)] ∧ Same H H' ∧ H' lp = some (.lst ys) ∧ ∃ cs : List Addr, ys = cs.map V.ref ∧ Paired (fun b w => H b = some (.lst (w.map V.int))) cs (Sh.pick ws (ids.take j)))
    ⟨none, rfl, Same.new fp, upd_same, [], rfl, .nil⟩ (fun j ys σ H' _ ⟨_, _, s, _⟩ => s.seq hS) ?_ ?_
  · rintro j x ys σ H' hj ⟨u, rfl, s, hL, cs, rfl, hC⟩
    rw [List.getElem?_map] at hj
    cases e : ids[j]? with
    | none => rw [e] at hj; cases hj
    | some z =>
      rw [e] at hj
      obtain rfl : V.int z = x := Option.some.inj hj
      have hz := hi z (List.mem_of_getElem? e)
      have hlt : z.toNat < ws.length := by omega
      obtain ⟨b, hb, hbw⟩ := paired_get (i := z.toNat) (b := ws[z.toNat]) hP (by simp [hlt])
      have e2 : (as.map V.ref)[z.toNat]? = some (V.ref b) := by rw [List.getElem?_map, hb]; rfl
      have e3 := atI_nat e2
      rw [Int.toNat_of_nonneg hz.1] at e3
      refine ⟨_, rfl, _, rfl, lw, _, z, _, rfl, rfl, SqL.of (s _ _ hA), e3, hL, ?_, _, rfl, s.put fp, upd_same, cs ++ [b], ?_, ?_⟩
      · rw [List.length_map, Paired.length hC]
        unfold Sh.pick
        rw [List.length_map]
        have h2 := List.length_take_le' j ids
        exact small1000 (by omega)
      · rw [List.map_append]
        rfl
      · rw [List.take_add_one, e]
        unfold Sh.pick
        rw [List.map_append]
        refine Paired.snoc hC ?_
        show H b = some (HO.lst (List.map V.int (ws.getD z.toNat [])))
        rw [List.getD_eq_getElem?_getD, List.getElem?_eq_getElem hlt]
        exact hbw
  · rintro ys σ H' ⟨u, rfl, s, hL, cs, rfl, hC⟩
    rw [List.length_map, List.take_length] at hC
    exact q H' s ⟨cs, hL, Paired.mapP hC fun b w e => s _ _ e⟩
end L2
namespace L2
open PySem PySem.Spec PyProof.Rows
section
variable {X : Cx}
end
end L2
namespace Sh
end Sh
namespace L2
open PySem PySem.Spec PyProof.Rows
section
variable {X : Cx} {tg : Expr}
end
end L2
namespace L2
open PySem PySem.Spec PyProof.Rows
section
variable {X : Cx} {K : PySem.W.Frag}
end
end L2
namespace L2
open PySem PySem.Spec PyProof.Rows
theorem cut_drop {xs : List V} {k : Nat} : cutV xs (some (k : Int)) none = xs.drop k := by
  unfold cutV
  rw [HT.sIx_none, HT.sIx_nat]
  by_cases h : k ≤ xs.length
  · rw [Nat.min_eq_left h]
    rw [List.take_of_length_le]
    rw [List.length_drop]
    omega
  · rw [Nat.min_eq_right (by omega), List.drop_eq_nil_of_le (Nat.le_refl _), List.drop_eq_nil_of_le (by omega)]
    simp
end L2
namespace Sh
def wlk (many : Nat) (ws : List (List Int)) (bg : List Int) : Bool := (List.range bg.length).all fun j => decide (bg.getD j 0 ∈ nxt many ws (bg.take j))
def tr (many : Nat) (ws : List (List Int)) (os : List Int) (k : Nat) : Option (List Int) :=
  if wlk many ws (os.take k) then (((nxt many ws (os.take k)).filter fun b => decide (b > os.getD k 0)).findSome? fun b => (tl many ws (many - k - 1) (os.take k ++ [b])).map (b :: ·)).map (os.take k ++ ·) else none
end Sh
namespace L2
open PySem PySem.Spec PyProof.Rows
section
variable {X : Cx}
end
end L2
namespace Sh
def so (os : List Int) (p : Int × Int) : Bool := decide (os.idxOf p.1 < os.idxOf p.2)
end Sh
namespace L2
open PySem PySem.Spec PyProof.Rows
section
variable {X : Cx} {tg : Expr}
end
end L2
namespace Sh
end Sh
namespace L2
open PySem PySem.Spec PyProof.Rows
section
variable {prog : Program} {w : World} {A : Around} {E : Value → Shared → Prop} {s : Shared}
theorem dw_iter {d : Addr} {od : Obj} {es : Array DictEntry} {ep : Nat} {Q : Value → Shared → Prop} (hS : (d == sysModules) = false) (hod : s.heap.get? d = some od) (hx : od.ExactDict) (hdd : od.data = .dict es ep)
    (hQ : Q (.ref s.heap.objs.size) { s with heap := s.heap.push { cls := .type "dict_keyiterator", data := .fields #[.ref d, .int 0 0, .int es.size 0, .int ep 0] } }) : wpAny (model prog w) A (pyIter (.ref d)) Q E s := by
  have hT : s.TypeIs (.ref d) "dict" := ⟨od, hod, hx.1⟩
  refine wpAny_pyIter_slot hT F.slot_dict_iter (wpAny_call_entry F.slot_dict_iter hT F.entry_dict_iter ?_ (F.args_dict_iter_1 _)); unfold Builtin.«dict.__iter__»
  refine wpAny_bind ?_; unfold Builtin.Dict.dictSlotNone; refine wpAny_bind (wpAny_notOrdered_dict hT ?_)
  show wpAny _ _ (pure (Value.ref d)) _ _ s; refine wpAny_pure ?_
  show wpAny _ _ (Builtin.Dict.showsAll d >>= _) _ _ s; unfold Builtin.Dict.showsAll
  rw [if_neg (by rw [hS]; decide)]; refine wpAny_bind (wpAny_pure ?_)
  refine wpAny_bind (wpAny_dictEntries hod hdd ?_); refine wpAny_bind (wpAny_dictEpoch hod hdd ?_)
  refine wpAny_bind (wpAny_newObj_type (wpAny_pure ⟨_, rfl, "dict_keyiterator", _, ⟨_, Heap.get?_push_size _ rfl, rfl⟩, F.slot_dict_keyiterator_next.lookup, by simpa [rawInt] using hQ⟩))
theorem dw_item {it d : Addr} {i ep : Nat} {od : Obj} {es : Array DictEntry} {Q : Option Value → Shared → Prop} (hit : s.heap.IsKeyIter it d i es.size ep) (hod : s.heap.get? d = some od) (hdd : od.data = .dict es ep) (hi : i < es.size)
    (hQ : ∀ h', h'.IsKeyIter it d (i + 1) es.size ep → Heap.SameBut it s.heap h' → Q (some es[i].key) { s with heap := h' }) : wpAny (model prog w) A (pyNext (.ref it)) Q E s := by
  obtain ⟨o, ho, hc, hd⟩ := id hit
  unfold pyNext; refine wpAny_bind (wpAny_attempt (wpAny_callSpecial?_slot (name := Str.ofString "__next__") hit.typeIs F.slot_dict_keyiterator_next (wpAny_call_entry F.slot_dict_keyiterator_next hit.typeIs F.entry_dict_keyiterator_next ?_ (F.args_dict_keyiterator_next_1 _))))
  refine wpAny_bind (wpAny_pure ?_); refine wpAny_bind ?_; refine wpAny_bind ?_
  first | exact wpAny_bind (wpAny_typeNameOfWhole_keyiter hit.typeIs (wpAny_pure ?_)) | refine wpAny_bind (wpAny_typeNameOfWhole_keyiter hit.typeIs (wpAny_pure ?_))
  refine wpAny_bind (wpAny_fieldsOf ho hd ?_); simp only [show Builtin.Dict_items.ownsTuple "dict_keyiterator" = false by decide, Bool.false_eq_true, if_false]
  show wpAny _ _ (if (Value.ref d == Value.none) = true then _ else _) _ _ s; rw [if_neg (show ¬ ((Value.ref d == Value.none) = true) by exact Bool.false_ne_true)]
  refine wpAny_bind (wpAny_pure ?_); refine wpAny_bind (wpAny_dictEntries hod hdd ?_); rw [if_neg (by simp)]
  refine wpAny_bind (wpAny_pure ?_); refine wpAny_bind (wpAny_dictEpoch hod hdd ?_); rw [if_neg (by simp)]; refine wpAny_pure ?_
  simp only [show ¬ ((i : Int) < 0) by omega, if_false, Int.toNat_natCast, Array.getElem?_eq_getElem hi]; refine wpAny_bind ?_
  first | exact wpAny_bind (wpAny_typeNameOfWhole_keyiter hit.typeIs (wpAny_pure ?_)) | refine wpAny_bind (wpAny_typeNameOfWhole_keyiter hit.typeIs (wpAny_pure ?_))
  refine wpAny_bind (wpAny_isOneOf_keyiter hit.typeIs ?_); show wpAny _ _ (setField (.ref it) 1 (rawInt ((i : Int) + 1)) >>= _) _ _ s
  refine wpAny_bind (wpAny_setField ho hd (by simp) ?_)
  have hit2 : (s.heap.update it (Obj.mapFields (·.setIfInBounds 1 (rawInt ((i : Int) + 1))))).IsKeyIter it d (i + 1) es.size ep := ⟨_, Heap.get?_update_self _ ho (Obj.isFreed_of_fields (Obj.data_mapFields hd _)), (Obj.cls_mapFields ..).trans hc, by rw [Obj.data_mapFields hd]; simp [rawInt]⟩
  refine wpAny_bind (wpAny_holding ?_); refine wpAny_bind (wpAny_isOneOf_keyiter (s := { s with heap := s.heap.update it (Obj.mapFields (·.setIfInBounds 1 (rawInt ((i : Int) + 1)))) }) hit2.typeIs ?_)
  show wpAny _ _ (pure es[i].key) _ _ _; exact wpAny_pure (wpAny_pure ⟨_, rfl, wpAny_pure (hQ _ hit2 (Heap.SameBut.update ..))⟩)
theorem dw_end {it d : Addr} {ep : Nat} {od : Obj} {es : Array DictEntry} {Q : Option Value → Shared → Prop} (hh : A.handled = none) (hit : s.heap.IsKeyIter it d es.size es.size ep) (hod : s.heap.get? d = some od) (hdd : od.data = .dict es ep)
    (hQ : ∀ h', Heap.ExtBut it s.heap h' → Q none { s with heap := h' }) : wpAny (model prog w) A (pyNext (.ref it)) Q E s := by
  obtain ⟨o, ho, hc, hd⟩ := id hit
  unfold pyNext; refine wpAny_bind (wpAny_attempt (wpAny_callSpecial?_slot (name := Str.ofString "__next__") hit.typeIs F.slot_dict_keyiterator_next (wpAny_call_entry F.slot_dict_keyiterator_next hit.typeIs F.entry_dict_keyiterator_next ?_ (F.args_dict_keyiterator_next_1 _))))
  refine wpAny_bind (wpAny_pure ?_); refine wpAny_bind ?_; refine wpAny_bind ?_
  first | exact wpAny_bind (wpAny_typeNameOfWhole_keyiter hit.typeIs (wpAny_pure ?_)) | refine wpAny_bind (wpAny_typeNameOfWhole_keyiter hit.typeIs (wpAny_pure ?_))
  refine wpAny_bind (wpAny_fieldsOf ho hd ?_); simp only [show Builtin.Dict_items.ownsTuple "dict_keyiterator" = false by decide, Bool.false_eq_true, if_false]
  show wpAny _ _ (if (Value.ref d == Value.none) = true then _ else _) _ _ s; rw [if_neg (show ¬ ((Value.ref d == Value.none) = true) by exact Bool.false_ne_true)]
  refine wpAny_bind (wpAny_pure ?_); refine wpAny_bind (wpAny_dictEntries hod hdd ?_); rw [if_neg (by simp)]
  refine wpAny_bind (wpAny_pure ?_); refine wpAny_bind (wpAny_dictEpoch hod hdd ?_); rw [if_neg (by simp)]; refine wpAny_pure ?_
  simp only [show ¬ ((es.size : Int) < 0) by omega, if_false, Int.toNat_natCast, Array.getElem?_eq_none (Nat.le_refl es.size)]; refine wpAny_bind ?_
  first | exact wpAny_bind (wpAny_typeNameOfWhole_keyiter hit.typeIs (wpAny_pure ?_)) | refine wpAny_bind (wpAny_typeNameOfWhole_keyiter hit.typeIs (wpAny_pure ?_))
  show wpAny _ _ (setField (.ref it) 0 .none >>= _) _ _ s; refine wpAny_bind (wpAny_setField ho hd (by simp) ?_)
  show wpAny _ _ (newExc (.type "StopIteration") [] >>= _) _ _ _; refine wpAny_bind ?_; simp only [newExc, newTuple]
  refine wpAny_bind (wpAny_newObj_type ?_ (by size_fits)); refine wpAny_bind (m := firstArgMember _ _) (wpAny_of_eq (a := Value.none) (by first | rfl | (simp only [firstArgMember]; rfl)) ?_)
  refine wpAny_newObj_type ?_ (by size_fits); simp only [raiseNew]; refine wpAny_bind (wpAny_handled ?_)
  rw [show A.in1.handled = none by exact hh]; refine wpAny_bind (wpAny_pure (wpAny_throw ?_))
  refine wpAny_bind (wpAny_isInstance (T := "StopIteration") (b := true) ⟨_, Heap.get?_push_size _ rfl, rfl⟩ isSubtype_stop ?_); exact wpAny_pure (hQ _ (((Heap.SameBut.update ..).extBut.push _).push _))
end
def Itk (a : Addr) (o : Obj) (kvs : List (List Key × V)) : It :=
  ⟨fun i H => H a = some (.frz o (.dT kvs)) ∧ i < kvs.length, fun i H x H' => H' = H ∧ ∃ b k v, kvs[i]? = some (k, v) ∧ x = .ref b ∧ H b = some (.tup (k.map kV)), fun i H => H a = some (.frz o (.dT kvs)) ∧ i = kvs.length⟩
theorem frz_of {X : Cx} {pins : List (Addr × Obj)} {σ : St} {H : Hp} {s : Shared} {a : Addr} {kvs : List (List Key × V)} (I : Inv X pins σ H s) (h : H a = some (.dT kvs)) : ∃ o, s.heap.get? a = some o ∧ Inv X pins σ (upd H a (.frz o (.dT kvs))) s := by
  obtain ⟨z, y, xs, r, o, es, ep, h1, h2, h3, h4, h5⟩ := (show ObjOk X.prog X.w H s.heap a (.dT kvs) from I.hok a _ h)
  refine ⟨o, h1, ?_⟩
  have := I.write (x := a) (e := a) (o := .frz o (.dT kvs)) (h' := s.heap) (t' := s.toks) (by rw [h]; exact trivial) (.inl rfl) (fun b u _ e => e) ⟨o, h1⟩ ⟨h1, z, y, xs, Paired.mapP r fun p q ⟨e1, e2, e3⟩ => ⟨e1, ?_, e3⟩, o, es, ep, h1, h2, h3, h4, h5⟩
  · exact this
  · rw [upd_ne (ne_of e2 h (by intro z; cases z))]
    exact e2
theorem turn_dictT {P : Program} {w : World} {K : PySem.W.Frag} {tg : Expr} (a it : Addr) (o : Obj) (es : Array DictEntry) (ep : Nat) (kvs : List (List Key × V)) (hd : o.data = .dict es ep) (hl : es.size = kvs.length) :
    Turn P w K tg (Itk a o kvs) [it] it (fun i h => h.IsKeyIter it a i es.size ep) where
  mem := by simp
  obj := fun i h st b hb => by
    have e : b = it := by simpa using hb
    subst e
    obtain ⟨o', ho', _, hd'⟩ := st
    exact ⟨o', ho', fun v z => by rw [hd'] at z; cases z⟩
  keep := fun i h h' st k => st.at fun o e => k it (by simp) o e
  item := by
    intro X hP hw hK hc i pins s σ H E I hf st hg
    subst hP hw hK
    obtain ⟨f0, f1, f2, f3, f4, f5⟩ := hf it (by simp)
    obtain ⟨hq, hi⟩ := hg
    obtain ⟨ho, z, y, xs, r, o2, es2, ep2, h1, h2, h3, h4, h5⟩ := (show ObjOk X.prog X.w H s.heap a (.frz o (.dT kvs)) from I.hok a _ hq)
    have eo : o2 = o := by
      rw [ho] at h1
      exact (Option.some.inj h1).symm
    subst eo
    have ee : es2 = es := by
      rw [hd] at h3
      exact (Data.dict.inj h3).1.symm
    subst ee
    obtain ⟨q, hq2, e1, e2, e3⟩ := paired_get1 (a := kvs[i]) r (List.getElem?_eq_getElem hi)
    have hi2 : i < es2.size := by omega
    have ek : es2[i] = entryOfKey (tupleKind (mixKind X.prog X.w)) q := by
      have := entry_at h4 i
      rw [hq2, Array.getElem?_eq_getElem hi2] at this
      exact Option.some.inj this
    refine dw_item st ho hd hi2 fun h' st' kk => ?_
    have I1 : Inv X pins σ H { s with heap := h', toks := s.toks } := I.turned (fun b o hb e => (kk.2 b hb).trans e) f0 f1 f3 f4 f5
    obtain ⟨o', ho', hc', hd'⟩ := id st'
    refine ⟨_, rfl, go_of (s := { s with heap := h' }) (n := "dict_keyiterator") ho' hc' hd' (by decide) ⟨.ref q.2.1, H, I1, ?_, ⟨rfl, q.2.1, kvs[i].1, kvs[i].2, List.getElem?_eq_getElem hi, rfl, e2⟩, st', fun b hb => (hf b hb).1⟩⟩
    rw [ek]
    rfl
  done := by
    intro X hP hw hK hc i pins s σ H E I hf st hg
    subst hP hw hK
    obtain ⟨f0, f1, f2, f3, f4, f5⟩ := hf it (by simp)
    obtain ⟨hq, hi⟩ := hg
    obtain ⟨ho, _⟩ := (show ObjOk X.prog X.w H s.heap a (.frz o (.dT kvs)) from I.hok a _ hq)
    have st2 : s.heap.IsKeyIter it a es.size es.size ep := by
      have e : i = es.size := by omega
      rwa [e] at st
    exact dw_end (I.ok.hd hc) st2 ho hd fun h' eb => ⟨rfl, I.turned (t' := s.toks) (fun b o hb e => eb b o hb e) f0 f1 f3 f4 f5⟩
  self := fun _ _ _ _ _ st h => wpAny_pyIter_keyiter st h
section
variable {X : Cx} {tg : Expr}
def iDictT (tl : TE) : TI := fun σ H R => tl σ H fun x H1 => ∃ a kvs, x = .ref a ∧ H1 a = some (.dT kvs) ∧ ∀ o, R (Itk a o kvs) (upd H1 a (.frz o (.dT kvs)))
theorem pi_dictT {l : Expr} {tl : TE} (hl : PE X l tl) : PI X tg l (iDictT tl) := by
  intro pins s σ H R I h
  refine thn (hl pins s σ H _ I h) fun v s1 ⟨x, H1, I1, r1, q1⟩ => ?_
  obtain ⟨a, kvs, e, hq, q⟩ := q1
  subst e
  cases r1
  obtain ⟨o, ho, I2⟩ := frz_of I1 hq
  obtain ⟨z, y, xs, r, o2, es, ep, h1, h2, h3, h4, h5⟩ := (show ObjOk X.prog X.w H1 s1.heap a (.dT kvs) from I1.hok a _ hq)
  have eo : o2 = o := by
    rw [ho] at h1
    exact (Option.some.inj h1).symm
  subst eo
  have hl : es.size = kvs.length := by rw [size_of_entries h4, Paired.length r]
  refine dw_iter y ho h2 h3 ?_
  refine ⟨s1.heap.objs.size, [s1.heap.objs.size], _, _, _, rfl, I2.kept (t' := s1.toks) fun b o e => Heap.get?_push_of_some _ e, turn_dictT a _ o2 es ep kvs h3 hl, ⟨_, Heap.get?_push_size _ rfl, rfl, rfl⟩, fun b hb => ?_, q o2⟩
  have e : b = s1.heap.objs.size := by simpa using hb
  subst e
  exact I2.fpOk (Nat.le_refl _) (I2.hok.fresh (Nat.le_refl _))
end
theorem for_dictT {a : Addr} {o : Obj} {kvs : List (List Key × V)} {g : TG} {tb : TS} {D : Ends} {σ : St} {H : Hp} (Pv : Nat → St → Hp → Prop) (h0 : Pv 0 σ H) (hl : ∀ i σ H, i ≤ kvs.length → Pv i σ H → H a = some (.frz o (.dT kvs)))
    (hs : ∀ i k v b σ H, kvs[i]? = some (k, v) → H b = some (.tup (k.map kV)) → Pv i σ H → g (.ref b) σ H fun σ2 H2 => tb { D with nx := Pv (i + 1), ct := Pv (i + 1), bk := D.nx } σ2 H2) (hd : ∀ σ H, Pv kvs.length σ H → D.nx σ H) :
    ∃ W : Nat → Nat → St → Hp → Prop, (∃ m, W 0 m σ H) ∧ ∀ i m σ H, W i m σ H →
      ((Itk a o kvs).stop i H ∧ D.nx σ H) ∨ ((Itk a o kvs).go i H ∧ ∃ N : St → Hp → Prop, (∀ σ' H', N σ' H' → ∃ m', m' < m ∧ W (i + 1) m' σ' H') ∧ ∀ x H', (Itk a o kvs).yld i H x H' → g x σ H' fun σ2 H2 => tb { D with nx := N, ct := N, bk := D.nx } σ2 H2) := by
  refine ⟨fun i m σ H => m = kvs.length - i ∧ i ≤ kvs.length ∧ Pv i σ H, ⟨kvs.length, by simp, Nat.zero_le _, h0⟩, ?_⟩
  rintro i m σ H ⟨rfl, hi, p⟩
  have q := hl i σ H hi p
  by_cases hlt : i < kvs.length
  · refine .inr ⟨⟨q, hlt⟩, Pv (i + 1), fun σ' H' p' => ⟨kvs.length - (i + 1), by omega, rfl, hlt, p'⟩, fun x H' y => ?_⟩
    obtain ⟨e, b, k, v, e1, e2, e3⟩ := y
    subst e e2
    exact hs i k v b σ _ e1 e3 p
  · have e : i = kvs.length := by omega
    subst e
    exact .inl ⟨⟨q, rfl⟩, hd σ H p⟩
end L2
namespace L2
open PySem PySem.Spec PyProof.Rows
def mrgH (xs ys : List (List Key × Addr × Value)) : List (List Key × Addr × Value) := ys.foldl (fun acc y => storedH acc y.1 y.2.1 y.2.2) xs
theorem mrgH_snoc {xs ys : List (List Key × Addr × Value)} {i : Nat} {y : List Key × Addr × Value} (h : ys[i]? = some y) : mrgH xs (ys.take (i + 1)) = storedH (mrgH xs (ys.take i)) y.1 y.2.1 y.2.2 := by
  unfold mrgH
  rw [List.take_add_one, h, List.foldl_append]
  rfl
theorem atKey_no {xs : List (List Key × Addr × Value)} {k : List Key} (h : k ∉ xs.map (·.1)) : atKey xs k = none := by
  unfold atKey
  rw [List.find?_eq_none.mpr fun x hx hk => h (List.mem_map.mpr ⟨x, hx, of_decide_eq_true hk⟩)]
  rfl
theorem mrgH_new : ∀ {ys xs : List (List Key × Addr × Value)}, ((xs ++ ys).map (·.1)).Nodup → mrgH xs ys = xs ++ ys
  | [], xs, _ => by simp [mrgH]
  | y :: r, xs, h => by
    have hn : y.1 ∉ xs.map (·.1) := fun hm => by
      rw [List.map_append, List.nodup_append] at h
      exact h.2.2 y.1 hm y.1 (by simp) rfl
    have e : mrgH xs (y :: r) = mrgH (xs ++ [y]) r := by
      show mrgH (storedH xs y.1 y.2.1 y.2.2) r = _
      rw [storedH_new (atKey_no hn)]
    rw [e, mrgH_new (by simpa using h)]
    simp
theorem storedH_len (xs : List (List Key × Addr × Value)) (k : List Key) (a : Addr) (v : Value) : (storedH xs k a v).length ≤ xs.length + 1 := by
  unfold storedH
  split
  · rw [List.length_map]; omega
  · simp
theorem mrgH_len : ∀ (ys xs : List (List Key × Addr × Value)), (mrgH xs ys).length ≤ xs.length + ys.length
  | [], xs => by simp [mrgH]
  | y :: r, xs => by
    have h1 := mrgH_len r (storedH xs y.1 y.2.1 y.2.2)
    have h2 := storedH_len xs y.1 y.2.1 y.2.2
    have e : mrgH xs (y :: r) = mrgH (storedH xs y.1 y.2.1 y.2.2) r := rfl
    rw [e, List.length_cons]
    omega
section
variable {prog : Program} {w : World} {A : Around} {E : Value → Shared → Prop} {s : Shared} {knd : HeapKind prog w (List Key)}
theorem setH {d a : Addr} {xs : List (List Key × Addr × Value)} {k : List Key} {v : Value} {Q : Unit → Shared → Prop} (hu : knd.room A) (hkey : knd.is s.heap k a) (hm : s.heap.DictOfH knd d xs)
    (hQ : ∀ h', h'.DictOfH knd d (storedH xs k a v) → Heap.SameBut d s.heap h' → Q () { s with heap := h' }) (hsz : xs.length ≤ sizeLine) : wpAny (model prog w) A (dictSetHashed d (.ref a) (knd.hash k) v) Q E s := by
  obtain ⟨o, es, ep, ho, hc, hd, he, his, hn⟩ := hm
  have es1 := size_of_entries he
  unfold dictSetHashed
  try with_reducible refine wpAny_holding ?_
  refine wpAny_bind (wpAny_dictFind_heap hu hkey ho hd he his hn (fun hno => ?_) fun j p hj => ?_)
  · have hnot : k ∉ xs.map (·.1) := not_mem_keys_of_get hno
    have e0 := storedH_new (atKey_none_of_get hno) a v
    refine wpAny_bind (wpAny_rule (wpAny_updateDictKeys (hz := by omega) ho hd (hQ _ ⟨_, _, ep + 1, Heap.get?_update_self _ ho (Obj.isFreed_of_dict (Obj.data_mapDictKeys hd _)), hc.mapDictKeys _, Obj.data_mapDictKeys hd _, ?_, fun x hx => ?_, ?_⟩ (Heap.SameBut.update ..))))
    · rw [e0]; simp [he, entryOfKey]
    · rw [e0] at hx
      rcases List.mem_append.mp hx with z | z
      · exact knd.keeps (his x z) ho hd (Heap.SameBut.update ..)
      · cases List.mem_singleton.mp z
        exact knd.keeps hkey ho hd (Heap.SameBut.update ..)
    · rw [e0, List.map_append]
      exact nd_snoc hn hnot
  · have e0 := storedH_old (atKey_of_get hn hj) a v
    refine wpAny_bind (wpAny_rule (wpAny_bind (wpAny_updateDict ho hd (wpAny_point (hQ _ ⟨_, _, ep, Heap.get?_update_self _ ho (Obj.isFreed_of_dict (Obj.data_mapDict hd _)), hc.mapDict _, Obj.data_mapDict hd _, ?_, fun x hx => ?_, ?_⟩ (Heap.SameBut.update ..))))))
    · rw [e0]
      have q := modify_map_putAt (entryOfKey knd) (fun e : DictEntry => { e with val := v }) k v (fun _ _ => rfl) hn hj
      rw [← he] at q
      obtain ⟨l⟩ := es
      simpa using q
    · rw [e0] at hx
      obtain ⟨y, hy, rfl⟩ := List.mem_map.mp hx
      unfold putAt; split <;> exact knd.keeps (his y hy) ho hd (Heap.SameBut.update ..)
    · rw [e0, keys_map_putAt]
      exact hn
theorem entriesH {id : String} {o : Addr} {oo : Obj} {es : Array DictEntry} {ep : Nat} {ys : List (List Key × Addr × Value)} {Q : Array DictEntry → Shared → Prop} (ho : s.heap.get? o = some oo) (hd : oo.data = .dict es ep) (he : es.toList = ys.map (entryOfKey knd))
    (ht : ∀ y ∈ ys, s.TypeIs (.ref y.2.1) "tuple") (hn : (ys.map (·.1)).Nodup) (hinj : ∀ x ∈ ys, ∀ y ∈ ys, knd.hash x.1 = knd.hash y.1 → x.1 = y.1) (h : Q es s) : wpAny (model prog w) A (Builtin.Dict.entriesForEmpty id o) Q E s := by
  unfold Builtin.Dict.entriesForEmpty
  refine wpAny_bind (wpAny_dictEntries ho hd ?_)
  refine wpAny_bind ?_
  rw [← Array.forIn_toList]
  have one : ∀ y ∈ ys, ¬ (es.filter (·.hash == (entryOfKey knd y).hash)).size > 1 := fun y hy => by
    have e1 : (es.filter (·.hash == (entryOfKey knd y).hash)).size = (ys.filter fun x => knd.hash x.1 == knd.hash y.1).length := by
      rw [← Array.length_toList, Array.toList_filter, he, List.filter_map, List.length_map]
      rfl
    rw [e1]
    have e2 : (ys.filter fun x => knd.hash x.1 == knd.hash y.1).length ≤ 1 := by
      have nf : ((ys.filter fun x => knd.hash x.1 == knd.hash y.1).map (·.1)).Nodup := hn.sublist (List.Sublist.map _ List.filter_sublist)
      have := Sh.nodup_le nf (V := [y.1]) fun k hk => by
        obtain ⟨x, hx, rfl⟩ := List.mem_map.mp hk
        obtain ⟨hx1, hx2⟩ := List.mem_filter.mp hx
        rw [hinj x hx1 y hy (by simpa using hx2)]
        exact List.mem_singleton_self _
      rwa [List.length_map] at this
    omega
  refine wpAny_forIn_list _ (fun rest _ s' => s' = s ∧ ∀ e ∈ rest, ∃ y ∈ ys, e = entryOfKey knd y) _ ?_ ?_ _ _ ⟨rfl, fun e hin => by
    rw [he] at hin
    obtain ⟨y, hy, rfl⟩ := List.mem_map.mp hin
    exact ⟨y, hy, rfl⟩⟩
  · rintro e rest b s' ⟨rfl, hall⟩
    obtain ⟨y, hy, rfl⟩ := hall e List.mem_cons_self
    refine wpAny_bind ?_
    unfold Builtin.Dict.quietEq
    show wpAny _ _ (specialOf (.ref y.2.1) (Str.ofString "__eq__") >>= _) _ _ _
    refine wpAny_bind (wpAny_specialOf (ht y hy) F.slot_tuple_eq.lookup (wpAny_pure ?_))
    show wpAny _ _ (if (!(some (Value.builtin "tuple.__eq__") == some (Value.builtin "object.__eq__"))) = true then _ else _) _ _ _
    rw [if_pos (by decide), if_neg (one y hy)]
    exact wpAny_pure ⟨rfl, fun e he => hall e (List.mem_cons_of_mem _ he)⟩
  · rintro b s' ⟨rfl, _⟩
    exact wpAny_pure h
theorem mergeH {nm : String} {d o : Addr} {xs ys : List (List Key × Addr × Value)} {Q : Unit → Shared → Prop} (hdo : d ≠ o) (hoS : (o == sysModules) = false) (hu : knd.room A) (hd : s.heap.DictOfH knd d xs) (ho : s.heap.DictOfH knd o ys) (hne : ys ≠ [])
    (ht : ∀ y ∈ ys, s.TypeIs (.ref y.2.1) "tuple") (hinj : ∀ x ∈ ys, ∀ y ∈ ys, knd.hash x.1 = knd.hash y.1 → x.1 = y.1) (hsz : xs.length + ys.length ≤ sizeLine)
    (hQ : ∀ h', h'.DictOfH knd d (mrgH xs ys) → Heap.SameBut d s.heap h' → Q () { s with heap := h' }) : wpAny (model prog w) A (Builtin.Dict.mergeDict nm d o) Q E s := by
  obtain ⟨od, esd, epd, hod, hcd, hdd, hed, hisd, hnd⟩ := id hd
  obtain ⟨oo, eso, epo, hoo, hco, hdo2, heo, hiso, hno⟩ := id ho
  have hlo : eso.size = ys.length := size_of_entries heo
  have hld : esd.size = xs.length := size_of_entries hed
  have hy0 : 0 < ys.length := List.length_pos_iff.mpr hne
  unfold Builtin.Dict.mergeDict
  rw [if_neg (by simpa using hdo)]
  unfold Builtin.Dict.showsAll
  rw [if_neg (by rw [hoS]; decide)]
  refine wpAny_bind (wpAny_pure ?_); refine wpAny_bind (wpAny_dictEntries hoo hdo2 ?_)
  have few : (decide (eso.size ≤ 8) && eso.all fun e => (keyPart e.key).isSome) = false := by
    rw [Bool.and_eq_false_iff]
    refine .inr ?_
    rw [← Array.all_toList, heo, List.all_map]
    obtain ⟨y, r, rfl⟩ : ∃ y r, ys = y :: r := by
      cases ys with
      | nil => exact absurd rfl hne
      | cons y r => exact ⟨y, r, rfl⟩
    rw [List.all_cons]
    rfl
  dsimp only
  rw [few]
  rw [if_pos (show (!false) = true from rfl)]
  refine wpAny_bind (wpAny_dictEntries hod hdd ?_)
  by_cases hemp : esd.isEmpty = true
  · rw [if_pos hemp]
    have hx0 : xs = [] := List.length_eq_zero_iff.mp (by rw [← hld]; simpa using hemp)
    subst hx0
    refine wpAny_bind (entriesH hoo hdo2 heo ht hno hinj ?_)
    have hnotE : (!eso.isEmpty) = true := by
      rw [Bool.not_eq_true', Bool.eq_false_iff]
      intro z
      have : eso.size = 0 := by simpa using z
      omega
    rw [if_pos hnotE]
    have em : mrgH [] ys = ys := by
      have := mrgH_new (xs := []) (ys := ys) (by simpa using hno)
      simpa using this
    refine wpAny_bind (wpAny_updateDictKeysTo hod hdd (wpAny_pure (hQ _ ⟨_, _, epd + 1, Heap.get?_update_self _ hod (Obj.isFreed_of_dict (Obj.data_mapDictKeys hdd _)), hcd.mapDictKeys _, Obj.data_mapDictKeys hdd _, ?_, fun x hx => ?_, ?_⟩ (Heap.SameBut.update ..))) (by simp only [List.length_nil] at hsz; omega))
    · rw [em]; exact heo
    · rw [em] at hx
      exact knd.keeps (hiso x hx) hod hdd (Heap.SameBut.update ..)
    · rw [em]; exact hno
  · rw [if_neg hemp]
    refine wpAny_bind (wpAny_dictEpoch hoo hdo2 ?_); refine wpAny_bind (wpAny_dictEntries hoo hdo2 ?_); refine wpAny_bind ?_
    rw [Std.Legacy.Range.forIn_eq_forIn_range']; simp only [Std.Legacy.Range.size, Nat.sub_zero, Nat.add_sub_cancel, Nat.div_one]
    refine wpAny_forIn_list _ (fun rest _ s' => ∃ h' i, s' = { s with heap := h' } ∧ rest = List.range' i (eso.size - i) ∧ i ≤ eso.size ∧ h'.DictOfH knd d (mrgH xs (ys.take i)) ∧ h'.get? o = some oo ∧ Heap.SameBut d s.heap h') _ ?_ ?_ _ _
      ⟨s.heap, 0, rfl, by simp, Nat.zero_le _, by simpa [mrgH] using hd, hoo, Heap.SameBut.refl _ _⟩
    · rintro x rest b s' ⟨h', i, rfl, hr, hi, hd', hoo', hs'⟩
      have hlt : i < eso.size := by
        refine Classical.byContradiction fun z => ?_
        rw [show eso.size - i = 0 by omega] at hr
        simp at hr
      have er : x = i ∧ rest = List.range' (i + 1) (eso.size - (i + 1)) := by
        rw [show eso.size - i = (eso.size - (i + 1)) + 1 by omega, List.range'_succ] at hr
        exact ⟨(List.cons.inj hr).1, (List.cons.inj hr).2⟩
      obtain ⟨rfl, hrest⟩ := er
      refine wpAny_bind (wpAny_dictEntries hoo' hdo2 ?_)
      have hlt2 : x < ys.length := by omega
      have ex : eso[x]? = some (entryOfKey knd ys[x]) := by rw [entry_at heo x, List.getElem?_eq_getElem hlt2]; rfl
      rw [ex]
      show wpAny _ _ (holding [Value.ref ys[x].2.1, ys[x].2.2] (dictSetHashed d (.ref ys[x].2.1) (knd.hash ys[x].1) ys[x].2.2) >>= _) _ _ _
      have hmx : (mrgH xs (ys.take x)).length ≤ sizeLine := by
        have q1 := mrgH_len (ys.take x) xs
        have q2 : (ys.take x).length ≤ ys.length := by rw [List.length_take]; omega
        omega
      have hk : knd.is h' ys[x].1 ys[x].2.1 := knd.keeps (hiso _ (List.getElem_mem hlt2)) hod hdd hs'
      refine wpAny_bind (wpAny_holding (setH (s := { s with heap := h' }) hu hk hd' (fun h'' hd'' hs'' => ?_) hmx))
      have hoo2 : h''.get? o = some oo := (hs''.2 o (Ne.symm hdo)).trans hoo'
      refine wpAny_bind (wpAny_dictEpoch hoo2 hdo2 ?_)
      rw [if_neg (by simp)]
      exact wpAny_pure ⟨h'', x + 1, rfl, hrest, hlt, by rw [mrgH_snoc (List.getElem?_eq_getElem hlt2)]; exact hd'', hoo2, hs'.trans hs''⟩
    · rintro b s' ⟨h', i, rfl, hr, hi, hd', hoo', hs'⟩
      have hin : i = eso.size := by
        refine Classical.byContradiction fun z => ?_
        rw [show eso.size - i = (eso.size - (i + 1)) + 1 by omega, List.range'_succ] at hr
        cases hr
      refine wpAny_pure (hQ h' ?_ hs')
      rw [hin, hlo, List.take_length] at hd'
      exact hd'
theorem upd_meets (d o : Addr) (hdo : d ≠ o) (hoS : (o == sysModules) = false) :
    MeetsIn prog w (Builtin.«dict.update» ⟨[.ref d, .ref o], []⟩) (fun A R s => ∃ xs ys, knd.room A.in1 ∧ s.heap.DictOfH knd d xs ∧ s.heap.DictOfH knd o ys ∧ ys ≠ [] ∧ (∀ y ∈ ys, s.TypeIs (.ref y.2.1) "tuple") ∧ (∀ x ∈ ys, ∀ y ∈ ys, knd.hash x.1 = knd.hash y.1 → x.1 = y.1) ∧ xs.length + ys.length ≤ sizeLine ∧
      ∀ h', h'.DictOfH knd d (mrgH xs ys) → Heap.SameBut d s.heap h' → R (.ok (.ret .none)) { s with heap := h' }) :=
  .of_wp fun A R s ⟨xs, ys, hu, hd, ho, hne, ht, hinj, hsz, h⟩ => by
    unfold Builtin.«dict.update»; refine wpAny_bind ?_
    unfold Builtin.Dict.selfAndRest; refine wpAny_bind (wpAny_notOrdered_dict hd.typeIs ?_)
    show wpAny _ _ (pure (d, [Value.ref o])) _ _ s; refine wpAny_pure ?_
    show wpAny _ _ (Builtin.Dict.updateFrom "dict.update" d (.ref o) [] .none) _ _ s; unfold Builtin.Dict.updateFrom
    refine wpAny_bind (wpAny_typeOf ho.typeIs ?_); rw [if_neg (by decide)]; refine wpAny_bind ?_
    unfold Builtin.Dict.merge; refine wpAny_bind ?_
    unfold Builtin.Dict.readDirectly; refine wpAny_bind (wpAny_isInstance ho.typeIs isSubtype_dict_dict ?_)
    simp only [Bool.not_true, Bool.false_eq_true, if_false]; refine wpAny_bind (wpAny_specialOf ho.typeIs F.slot_dict_iter.lookup (wpAny_pure ?_))
    simp only [beq_self_eq_true, if_true]; refine wpAny_bind (wpAny_pure ?_)
    refine mergeH hdo hoS hu hd ho hne ht hinj hsz fun h' hd' hs' => ?_
    show wpAny _ _ (Builtin.Dict.addKeywords d [] >>= _) _ _ _; exact wpAny_bind (wpAny_pure (wpAny_pure ⟨.none, rfl, h h' hd' hs'⟩))
end
def mrgK (kvs more : List (List Key × V)) : List (List Key × V) := more.foldl (fun acc p => putK acc p.1 p.2) kvs
theorem KT.merge {H : Hp} : ∀ {more : List (List Key × V)} {ys : List (List Key × Addr × Value)} {kvs : List (List Key × V)} {xs : List (List Key × Addr × Value)}, KT H kvs xs → KT H more ys → KT H (mrgK kvs more) (mrgH xs ys)
  | _, _, _, _, r, .nil => r
  | p :: _, q :: _, _, _, r, .cons h t => by
    have e := KT.put r p.1 (b := q.2.1) h.2.1 h.2.2
    have e1 : p.1 = q.1 := h.1
    refine KT.merge (kvs := putK _ p.1 p.2) (xs := storedH _ q.1 q.2.1 q.2.2) ?_ t
    rw [← e1]
    exact e
theorem mrgK_len : ∀ (more kvs : List (List Key × V)), (mrgK kvs more).length ≤ kvs.length + more.length
  | [], kvs => by simp [mrgK]
  | p :: r, kvs => by
    have h1 := mrgK_len r (putK kvs p.1 p.2)
    have h2 := length_putK kvs p.1 p.2
    have e : mrgK kvs (p :: r) = mrgK (putK kvs p.1 p.2) r := rfl
    rw [e, List.length_cons]
    omega
theorem valV_mrg : ∀ (more kvs : List (List Key × V)) (k : List Key), (valV (mrgK kvs more) k).isSome = ((valV kvs k).isSome || (valV more k).isSome)
  | [], kvs, k => by simp [mrgK, valV_nil]
  | p :: r, kvs, k => by
    have h := valV_mrg r (putK kvs p.1 p.2) k
    have e : mrgK kvs (p :: r) = mrgK (putK kvs p.1 p.2) r := rfl
    rw [e, h, valV_put]
    by_cases q : p.1 = k
    · rw [if_pos q.symm, valV_pos q]
      simp
    · rw [if_neg (fun z => q z.symm), valV_neg q]
section
variable {X : Cx}
def rUpdT : V → List V → Hp → VK → Prop := fun x vs H Q => ∃ (d o : Addr) (kvs more : List (List Key × V)), x = .ref d ∧ vs = [.ref o] ∧ d ≠ o ∧ H d = some (.dT kvs) ∧ Rd H o (.dT more) ∧ more ≠ [] ∧ kvs.length + more.length ≤ 10000 ∧
  (∀ p ∈ more, ∀ q ∈ more, ∀ (P : Program) (w : World), (tupleKind (mixKind P w)).hash p.1 = (tupleKind (mixKind P w)).hash q.1 → p.1 = q.1) ∧ Q .non (upd H d (.dT (mrgK kvs more)))
theorem mt_updT (hu : X.A.units + 1 < cLine) : MtM X "dict.update" rUpdT := by
  intro pins s σ H x vs v us Q I rx rv h
  obtain ⟨d, o, kvs, more, rfl, rfl, hdo, hd, ho, hne, hlen, hinj, q⟩ := h
  cases rx
  obtain ⟨u, rfl, ru⟩ := rv.one
  cases (show u = Value.ref o from ru)
  obtain ⟨z1, y1, xs, r1, dd⟩ := dt_of I.hok hd
  obtain ⟨z2, y2, ys, r2, dd2⟩ := dt_rd I.hok ho
  have l1 := Paired.length r1
  have l2 := Paired.length r2
  have tys : ∀ y ∈ ys, ∃ p ∈ more, p.1 = y.1 ∧ H y.2.1 = some (.tup (p.1.map kV)) := fun y hy => by
    obtain ⟨i, hi⟩ := List.getElem?_of_mem hy
    obtain ⟨p, hp, e1, e2, _⟩ := paired_get r2 hi
    exact ⟨p, List.mem_of_getElem? hp, e1, e2⟩
  refine call_meetsIn PySem.F.slot_dict_update dd.typeIs PySem.F.entry_dict_update (PySem.F.args_dict_update_2 _ _) (upd_meets (knd := tupleKind (mixKind X.prog X.w)) d o hdo y2) ⟨xs, ys, tupleKind_room_in1 hu, dd, dd2, ?_, ?_, ?_, ?_, ?_⟩
  · rintro rfl
    exact hne (List.length_eq_zero_iff.mp l2)
  · intro y hy
    obtain ⟨p, _, _, e2⟩ := tys y hy
    obtain ⟨_, its, _, ob, h1, h2, _⟩ := (show ObjOk X.prog X.w H s.heap y.2.1 (.tup (p.1.map kV)) from I.hok _ _ e2)
    exact ⟨ob, h1, h2⟩
  · intro a ha b hb e
    obtain ⟨p, hp, e1, _⟩ := tys a ha
    obtain ⟨p', hp', e1', _⟩ := tys b hb
    rw [← e1, ← e1'] at e ⊢
    exact hinj p hp p' hp' _ _ e
  · rw [← l1, ← l2, sizeLine_eq]
    omega
  · intro h' hd' hs'
    refine ⟨.non, _, I.write (x := d) (e := d) (o := .dT (mrgK kvs more)) (h' := h') (t' := s.toks) (by rw [hd]; exact trivial) (.inl rfl) (fun b ob hb e => (hs'.2 b hb).trans e) ?_ ?_, rfl, q⟩
    · obtain ⟨ob, _, _, h1, _⟩ := hd'
      exact ⟨ob, h1⟩
    · obtain ⟨ob, es, ep, h1, h2, h3, h4, _, h6⟩ := hd'
      refine ⟨?_, y1, _, Paired.mapP (KT.merge r1 r2) fun p q' ⟨e1, e2, e3⟩ => ⟨e1, ?_, e3⟩, ob, es, ep, h1, h2, h3, h4, h6⟩
      · have := mrgK_len more kvs
        rw [sizeLine_eq]
        omega
      · rw [upd_ne (ne_of e2 hd (by intro z; cases z))]
        exact e2
end
def turnHash (a b : Nat) : Int := PySem.reduceHash (Builtin.Tuple.tupleHashOf [PySem.hashInt (a : Int), PySem.hashInt (b : Int)])
theorem turn_hash (a : Fin 8) : ∀ b c d : Fin 8, turnHash a b = turnHash c d → a = c ∧ b = d := by
  match a with
  | 0 => decide +kernel
  | 1 => decide +kernel
  | 2 => decide +kernel
  | 3 => decide +kernel
  | 4 => decide +kernel
  | 5 => decide +kernel
  | 6 => decide +kernel
  | 7 => decide +kernel
theorem kT_hash {P : Program} {w : World} {p : Tn} (h0 : 0 ≤ p.1) (h1 : 0 ≤ p.2) : (tupleKind (mixKind P w)).hash (kT p) = turnHash p.1.toNat p.2.toNat := by
  unfold turnHash
  rw [Int.toNat_of_nonneg h0, Int.toNat_of_nonneg h1]
  rfl
theorem kT_inj8 {P : Program} {w : World} {n : Nat} {p q : Tn} (h8 : n ≤ 8) (tp : Sh.Turn n p) (tq : Sh.Turn n q) (h : (tupleKind (mixKind P w)).hash (kT p) = (tupleKind (mixKind P w)).hash (kT q)) : kT p = kT q := by
  rw [kT_hash tp.a0 tp.b0, kT_hash tq.a0 tq.b0] at h
  have a1 := tp.a0
  have a2 := tp.a1
  have a3 := tp.b0
  have a4 := tp.b1
  have b1 := tq.a0
  have b2 := tq.a1
  have b3 := tq.b0
  have b4 := tq.b1
  obtain ⟨e1, e2⟩ := turn_hash ⟨p.1.toNat, by omega⟩ ⟨p.2.toNat, by omega⟩ ⟨q.1.toNat, by omega⟩ ⟨q.2.toNat, by omega⟩ h
  have e1 : p.1.toNat = q.1.toNat := Fin.mk.inj e1
  have e2 : p.2.toNat = q.2.toNat := Fin.mk.inj e2
  have : p = q := Prod.ext (by omega) (by omega)
  rw [this]
end L2
namespace Sh
section
open Classical
variable {α : Type}
def Tourn (T : α → α → Prop) (V : List α) : Prop := ∀ x ∈ V, ∀ y ∈ V, x ≠ y → (T x y ∧ ¬ T y x) ∨ (T y x ∧ ¬ T x y)
def Mod (T : α → α → Prop) (V : List α) (N : α → Prop) : Prop := ∀ x ∈ V, ¬ N x → (∀ n ∈ V, N n → T x n) ∨ ∀ n ∈ V, N n → T n x
def Cut (T : α → α → Prop) (V : List α) (S : α → Prop) : Prop := ∀ x ∈ V, S x → ∀ y ∈ V, ¬ S y → T x y
structure Lin (V : List α) (R : α → α → Prop) : Prop where
  irr : ∀ x ∈ V, ¬ R x x
  tra : ∀ x ∈ V, ∀ y ∈ V, ∀ z ∈ V, R x y → R y z → R x z
  tot : ∀ x ∈ V, ∀ y ∈ V, x ≠ y → R x y ∨ R y x
def Holds (V : List α) (R : α → α → Prop) (N : α → Prop) : Prop := ∀ x ∈ V, ∀ y ∈ V, ∀ z ∈ V, R x y → R y z → N x → N z → N y
def First (V : List α) (R : α → α → Prop) (S : α → Prop) : Prop := ∀ x ∈ V, ∀ y ∈ V, R x y → S y → S x
theorem Lin.asy {V : List α} {R : α → α → Prop} (h : Lin V R) {x y : α} (hx : x ∈ V) (hy : y ∈ V) (r : R x y) : ¬ R y x := fun q => h.irr x hx (h.tra x hx y hy x hx r q)

noncomputable def fl (V : List α) (p : α → Prop) : List α := V.filter fun x => @decide (p x) (propDecidable (p x))
theorem filter_lt {V : List α} {p : α → Prop} {y : α} (hy : y ∈ V) (hn : ¬ p y) : (fl V p).length < V.length := by
  unfold fl
  rw [List.length_filter_lt_length_iff_exists]
  exact ⟨y, hy, by simpa using hn⟩
theorem mem_fl {V : List α} {p : α → Prop} {x : α} : x ∈ fl V p ↔ x ∈ V ∧ p x := by
  unfold fl
  rw [List.mem_filter]
  simp

theorem some_lin : ∀ V : List α, ∃ R : α → α → Prop, Lin V R
  | [] => ⟨fun _ _ => False, ⟨fun _ h => absurd h List.not_mem_nil, fun _ h => absurd h List.not_mem_nil, fun _ h => absurd h List.not_mem_nil⟩⟩
  | v :: V => by
    obtain ⟨R, h⟩ := some_lin V
    refine ⟨fun x y => (x = v ∧ y ≠ v) ∨ (x ≠ v ∧ y ≠ v ∧ R x y), ⟨fun x hx => ?_, fun x hx y hy z hz => ?_, fun x hx y hy hne => ?_⟩⟩
    · rintro (⟨a, b⟩ | ⟨a, _, c⟩)
      · exact b a
      · rcases List.mem_cons.mp hx with e | hx
        · exact a e
        · exact h.irr x hx c
    · rintro (⟨a, b⟩ | ⟨a, b, c⟩) (⟨d, e⟩ | ⟨d, e, f⟩)
      · exact absurd d b
      · exact .inl ⟨a, e⟩
      · exact absurd d b
      · have hx' : x ∈ V := (List.mem_cons.mp hx).resolve_left a
        have hy' : y ∈ V := (List.mem_cons.mp hy).resolve_left b
        have hz' : z ∈ V := (List.mem_cons.mp hz).resolve_left e
        exact .inr ⟨a, e, h.tra x hx' y hy' z hz' c f⟩
    · by_cases ex : x = v
      · exact .inl (.inl ⟨ex, fun ey => hne (ex.trans ey.symm)⟩)
      · by_cases ey : y = v
        · exact .inr (.inl ⟨ey, ex⟩)
        · have hx' : x ∈ V := (List.mem_cons.mp hx).resolve_left ex
          have hy' : y ∈ V := (List.mem_cons.mp hy).resolve_left ey
          rcases h.tot x hx' y hy' hne with q | q
          · exact .inl (.inr ⟨ex, ey, q⟩)
          · exact .inr (.inr ⟨ey, ex, q⟩)
theorem max_exists {P : Nat → Prop} {n : Nat} (hb : ∀ k, P k → k ≤ n) (h : ∃ k, P k) : ∃ k, P k ∧ ∀ j, P j → j ≤ k := by
  induction n with
  | zero =>
    obtain ⟨k, hk⟩ := h
    have := hb k hk
    exact ⟨k, hk, fun j hj => by have := hb j hj; omega⟩
  | succ n ih =>
    by_cases hn : P (n + 1)
    · exact ⟨n + 1, hn, hb⟩
    · exact ih fun k hk => by
        have := hb k hk
        have : k ≠ n + 1 := fun e => hn (e ▸ hk)
        omega

theorem Tourn.sub {T : α → α → Prop} {V W : List α} (h : Tourn T V) (s : ∀ x ∈ W, x ∈ V) : Tourn T W := fun x hx y hy hne => h x (s x hx) y (s y hy) hne
theorem Mod.sub {T : α → α → Prop} {V W : List α} {N : α → Prop} (h : Mod T V N) (s : ∀ x ∈ W, x ∈ V) : Mod T W N := fun x hx hn => (h x (s x hx) hn).imp (fun q n hn => q n (s n hn)) (fun q n hn => q n (s n hn))
theorem Mod.beats {T : α → α → Prop} {V : List α} {N : α → Prop} (t : Tourn T V) (h : Mod T V N) {x m : α} (hx : x ∈ V) (nx : ¬ N x) (hm : m ∈ V) (nm : N m) (b : T x m) : ∀ n ∈ V, N n → T x n := by
  rcases h x hx nx with q | q
  · exact q
  · have := q m hm nm
    rcases t x hx m hm (fun e => nx (e ▸ nm)) with ⟨_, z⟩ | ⟨_, z⟩
    · exact absurd this z
    · exact absurd b z
theorem Mod.loses {T : α → α → Prop} {V : List α} {N : α → Prop} (t : Tourn T V) (h : Mod T V N) {x m : α} (hx : x ∈ V) (nx : ¬ N x) (hm : m ∈ V) (nm : N m) (b : T m x) : ∀ n ∈ V, N n → T n x := by
  rcases h x hx nx with q | q
  · have := q m hm nm
    rcases t x hx m hm (fun e => nx (e ▸ nm)) with ⟨_, z⟩ | ⟨_, z⟩
    · exact absurd b z
    · exact absurd this z
  · exact q

theorem tour (T : α → α → Prop) : ∀ (n : Nat) (V : List α), V.length ≤ n → Tourn T V →
    ∃ R, Lin V R ∧ (∀ N, Mod T V N → Holds V R N) ∧ ∀ S, Cut T V S → First V R S := by
  intro n
  induction n with
  | zero =>
    intro V hV _
    have : V = [] := List.length_eq_zero_iff.mp (by omega)
    subst this
    exact ⟨fun _ _ => False, ⟨fun _ h => absurd h List.not_mem_nil, fun _ h => absurd h List.not_mem_nil, fun _ h => absurd h List.not_mem_nil⟩, fun _ _ _ h => absurd h List.not_mem_nil, fun _ _ _ h => absurd h List.not_mem_nil⟩
  | succ n ih =>
    intro V hV tV
    by_cases hc : ∃ S, Cut T V S ∧ (∃ a ∈ V, S a) ∧ ∃ b ∈ V, ¬ S b
    · -- a cut
      obtain ⟨S, cS, ⟨a, ha, sa⟩, b, hb, sb⟩ := hc
      have l1 : (fl V S).length < V.length := filter_lt hb sb
      have l2 : (fl V fun x => ¬ S x).length < V.length := filter_lt (p := fun x => ¬ S x) ha (fun z => z sa)
      obtain ⟨R1, L1, H1, F1⟩ := ih (fl V S) (by omega) (tV.sub fun x hx => (mem_fl.mp hx).1)
      obtain ⟨R2, L2, H2, F2⟩ := ih (fl V fun x => ¬ S x) (by omega) (tV.sub fun x hx => (mem_fl.mp hx).1)
      have i1 : ∀ {x}, x ∈ V → S x → x ∈ (fl V S) := fun hx s => mem_fl.mpr ⟨hx, s⟩
      have i2 : ∀ {x}, x ∈ V → ¬ S x → x ∈ (fl V fun x => ¬ S x) := fun hx s => mem_fl.mpr ⟨hx, s⟩
      refine ⟨fun x y => (S x ∧ ¬ S y) ∨ (S x ∧ S y ∧ R1 x y) ∨ (¬ S x ∧ ¬ S y ∧ R2 x y), ⟨fun x hx => ?_, fun x hx y hy z hz => ?_, fun x hx y hy hne => ?_⟩, fun N mN => ?_, fun S' cS' => ?_⟩
      · rintro (⟨p, q⟩ | ⟨p, _, q⟩ | ⟨p, _, q⟩)
        · exact q p
        · exact L1.irr x (i1 hx p) q
        · exact L2.irr x (i2 hx p) q
      · rintro (⟨p, q⟩ | ⟨p, q, r⟩ | ⟨p, q, r⟩) (⟨p', q'⟩ | ⟨p', q', r'⟩ | ⟨p', q', r'⟩)
        · exact absurd p' q
        · exact absurd p' q
        · exact .inl ⟨p, q'⟩
        · exact .inl ⟨p, q'⟩
        · exact .inr (.inl ⟨p, q', L1.tra x (i1 hx p) y (i1 hy q) z (i1 hz q') r r'⟩)
        · exact absurd q p'
        · exact absurd p' q
        · exact absurd p' q
        · exact .inr (.inr ⟨p, q', L2.tra x (i2 hx p) y (i2 hy q) z (i2 hz q') r r'⟩)
      · by_cases sx : S x <;> by_cases sy : S y
        · rcases L1.tot x (i1 hx sx) y (i1 hy sy) hne with q | q
          · exact .inl (.inr (.inl ⟨sx, sy, q⟩))
          · exact .inr (.inr (.inl ⟨sy, sx, q⟩))
        · exact .inl (.inl ⟨sx, sy⟩)
        · exact .inr (.inl ⟨sy, sx⟩)
        · rcases L2.tot x (i2 hx sx) y (i2 hy sy) hne with q | q
          · exact .inl (.inr (.inr ⟨sx, sy, q⟩))
          · exact .inr (.inr (.inr ⟨sy, sx, q⟩))
      · -- a module
        have G1 := H1 N (mN.sub fun x hx => (mem_fl.mp hx).1)
        have G2 := H2 N (mN.sub fun x hx => (mem_fl.mp hx).1)
        -- if some n beyond the cut is of N, what of the cut isn't of N comes first there
        have K1 : ∀ m ∈ V, N m → ¬ S m → First (fl V S) R1 (fun x => ¬ N x) := fun m hm nm sm => by
          refine F1 _ fun x hx nx y hy ny => ?_
          obtain ⟨hx, sx⟩ := mem_fl.mp hx
          obtain ⟨hy, sy⟩ := mem_fl.mp hy
          exact mN.beats tV hx nx hm nm (cS x hx sx m hm sm) y hy (Classical.not_not.mp ny)
        have K2 : ∀ m ∈ V, N m → S m → First (fl V fun x => ¬ S x) R2 N := fun m hm nm sm => by
          refine F2 _ fun x hx nx y hy ny => ?_
          obtain ⟨hx, sx⟩ := mem_fl.mp hx
          obtain ⟨hy, sy⟩ := mem_fl.mp hy
          exact mN.loses tV hy ny hm nm (cS m hm sm y hy sy) x hx nx
        rintro x hx y hy z hz (⟨p, q⟩ | ⟨p, q, r⟩ | ⟨p, q, r⟩) (⟨p', q'⟩ | ⟨p', q', r'⟩ | ⟨p', q', r'⟩) nx nz
        · exact absurd p' q
        · exact absurd p' q
        · exact K2 x hx nx p y (i2 hy q) z (i2 hz q') r' nz
        · by_cases ny : N y
          · exact ny
          · exact absurd nx (K1 z hz nz q' x (i1 hx p) y (i1 hy q) r ny)
        · exact G1 x (i1 hx p) y (i1 hy q) z (i1 hz q') r r' nx nz
        · exact absurd q p'
        · exact absurd p' q
        · exact absurd p' q
        · exact G2 x (i2 hx p) y (i2 hy q) z (i2 hz q') r r' nx nz
      · -- another cut
        have C1 : Cut T (fl V S) S' := fun x hx sx y hy sy => cS' x (mem_fl.mp hx).1 sx y (mem_fl.mp hy).1 sy
        have C2 : Cut T (fl V fun x => ¬ S x) S' := fun x hx sx y hy sy => cS' x (mem_fl.mp hx).1 sx y (mem_fl.mp hy).1 sy
        rintro x hx y hy (⟨p, q⟩ | ⟨p, q, r⟩ | ⟨p, q, r⟩) sy
        · by_cases sx : S' x
          · exact sx
          · have h1 := cS x hx p y hy q
            have h2 := cS' y hy sy x hx sx
            rcases tV x hx y hy (fun e => q (e ▸ p)) with ⟨_, z⟩ | ⟨_, z⟩
            · exact absurd h2 z
            · exact absurd h1 z
        · exact F1 S' C1 x (i1 hx p) y (i1 hy q) r sy
        · exact F2 S' C2 x (i2 hx p) y (i2 hy q) r sy
    · -- no cut
      have trivialCut : ∀ R : α → α → Prop, ∀ S, Cut T V S → First V R S := fun R S cS x hx y hy _ sy => by
        by_cases sx : S x
        · exact sx
        · exact absurd ⟨S, cS, ⟨y, hy, sy⟩, x, hx, sx⟩ hc
      by_cases hm : ∃ M, Mod T V M ∧ (∃ a ∈ V, ∃ b ∈ V, a ≠ b ∧ M a ∧ M b) ∧ ∃ c ∈ V, ¬ M c
      · -- a greatest module
        have hP : ∃ k, ∃ M, Mod T V M ∧ (∃ a ∈ V, ∃ b ∈ V, a ≠ b ∧ M a ∧ M b) ∧ (∃ c ∈ V, ¬ M c) ∧ (fl V M).length = k := by
          obtain ⟨M, h1, h2, h3⟩ := hm
          exact ⟨_, M, h1, h2, h3, rfl⟩
        obtain ⟨k, ⟨M, mM, ⟨a, ha, b, hb, hab, Ma, Mb⟩, ⟨c, hcV, Mc⟩, hk⟩, hmax⟩ := max_exists (n := V.length) (fun k ⟨M, _, _, _, e⟩ => by rw [← e]; unfold fl; exact List.length_filter_le _ _) hP
        -- no module crosses it
        have cross : ∀ N, Mod T V N → (∃ x ∈ V, N x ∧ M x) → (∃ x ∈ V, N x ∧ ¬ M x) → ∀ x ∈ V, M x → N x := by
          rintro N mN ⟨u, hu, Nu, Mu⟩ ⟨v, hv, Nv, Mv⟩ y hy My
          by_cases Ny : N y
          · exact Ny
          · exfalso
            have mU : Mod T V (fun x => M x ∨ N x) := fun x hx nx => by
              have nM : ¬ M x := fun z => nx (.inl z)
              have nN : ¬ N x := fun z => nx (.inr z)
              rcases mM x hx nM with q | q
              · refine .inl fun m hm' z => z.elim (q m hm') fun z => mN.beats tV hx nN hu Nu (q u hu Mu) m hm' z
              · refine .inr fun m hm' z => z.elim (q m hm') fun z => mN.loses tV hx nN hu Nu (q u hu Mu) m hm' z
            by_cases all : ∃ d ∈ V, ¬ (M d ∨ N d)
            · have := hmax _ ⟨_, mU, ⟨a, ha, b, hb, hab, .inl Ma, .inl Mb⟩, all, rfl⟩
              have big : (fl V M).length < (fl V fun x => M x ∨ N x).length := by
                have e : fl V M = fl (fl V fun x => M x ∨ N x) M := by
                  unfold fl
                  rw [List.filter_filter]
                  refine List.filter_congr fun x _ => ?_
                  by_cases z : M x <;> simp [z]
                rw [e]
                exact filter_lt (mem_fl.mpr ⟨hv, .inr Nv⟩) Mv
              omega
            · -- all is M or N: then there is a cut
              have allN : ∀ x ∈ V, ¬ M x → N x := fun x hx nM => by
                by_cases z : N x
                · exact z
                · exact absurd ⟨x, hx, fun w => w.elim nM z⟩ all
              -- y against N
              rcases mN y hy Ny with q | q
              · -- y beats N, so M beats the rest
                refine hc ⟨M, fun x hx Mx z hz Mz => ?_, ⟨y, hy, My⟩, v, hv, Mv⟩
                exact mM.loses tV hz Mz hy My (q z hz (allN z hz Mz)) x hx Mx
              · refine hc ⟨fun x => ¬ M x, fun x hx Mx z hz Mz => ?_, ⟨v, hv, Mv⟩, y, hy, fun z => z My⟩
                exact mM.beats tV hx Mx hy My (q x hx (allN x hx Mx)) z hz (Classical.not_not.mp Mz)
        -- M by one of its own
        have lM : (fl V M).length < V.length := filter_lt hcV Mc
        have lV : (fl V fun x => ¬ M x ∨ x = a).length < V.length := filter_lt (p := fun x => ¬ M x ∨ x = a) hb (fun z => z.elim (fun w => w Mb) fun e => hab e.symm)
        obtain ⟨R1, L1, H1, _⟩ := ih (fl V M) (by omega) (tV.sub fun x hx => (mem_fl.mp hx).1)
        obtain ⟨R2, L2, H2, _⟩ := ih (fl V fun x => ¬ M x ∨ x = a) (by omega) (tV.sub fun x hx => (mem_fl.mp hx).1)
        have i1 : ∀ {x}, x ∈ V → M x → x ∈ (fl V M) := fun hx s => mem_fl.mpr ⟨hx, s⟩
        have i2 : ∀ {x}, x ∈ V → ¬ M x → x ∈ (fl V fun x => ¬ M x ∨ x = a) := fun hx s => mem_fl.mpr ⟨hx, .inl s⟩
        have ia : a ∈ (fl V fun x => ¬ M x ∨ x = a) := mem_fl.mpr ⟨ha, .inr rfl⟩
        -- the order: within M by R1, else by R2 with a for all of M
        refine ⟨fun x y => (M x ∧ M y ∧ R1 x y) ∨ (M x ∧ ¬ M y ∧ R2 a y) ∨ (¬ M x ∧ M y ∧ R2 x a) ∨ (¬ M x ∧ ¬ M y ∧ R2 x y), ⟨fun x hx => ?_, fun x hx y hy z hz => ?_, fun x hx y hy hne => ?_⟩, fun N mN => ?_, trivialCut _⟩
        · rintro (⟨p, _, q⟩ | ⟨p, q, _⟩ | ⟨p, q, _⟩ | ⟨p, _, q⟩)
          · exact L1.irr x (i1 hx p) q
          · exact q p
          · exact p q
          · exact L2.irr x (i2 hx p) q
        · rintro (⟨p, q, r⟩ | ⟨p, q, r⟩ | ⟨p, q, r⟩ | ⟨p, q, r⟩) (⟨p', q', r'⟩ | ⟨p', q', r'⟩ | ⟨p', q', r'⟩ | ⟨p', q', r'⟩)
          · exact .inl ⟨p, q', L1.tra x (i1 hx p) y (i1 hy q) z (i1 hz q') r r'⟩
          · exact .inr (.inl ⟨p, q', r'⟩)
          · exact absurd q p'
          · exact absurd q p'
          · exact absurd p' q
          · exact absurd p' q
          · exact absurd r' (L2.asy ia (i2 hy q) r)
          · exact .inr (.inl ⟨p, q', L2.tra a ia y (i2 hy q) z (i2 hz q') r r'⟩)
          · exact .inr (.inr (.inl ⟨p, q', r⟩))
          · exact .inr (.inr (.inr ⟨p, q', L2.tra x (i2 hx p) a ia z (i2 hz q') r r'⟩))
          · exact absurd q p'
          · exact absurd q p'
          · exact absurd p' q
          · exact absurd p' q
          · exact .inr (.inr (.inl ⟨p, q', L2.tra x (i2 hx p) y (i2 hy q) a ia r r'⟩))
          · exact .inr (.inr (.inr ⟨p, q', L2.tra x (i2 hx p) y (i2 hy q) z (i2 hz q') r r'⟩))
        · by_cases sx : M x <;> by_cases sy : M y
          · exact (L1.tot x (i1 hx sx) y (i1 hy sy) hne).imp (fun q => .inl ⟨sx, sy, q⟩) fun q => .inl ⟨sy, sx, q⟩
          · exact (L2.tot a ia y (i2 hy sy) (fun e => sy (e ▸ Ma))).imp (fun q => .inr (.inl ⟨sx, sy, q⟩)) fun q => .inr (.inr (.inl ⟨sy, sx, q⟩))
          · exact (L2.tot x (i2 hx sx) a ia (fun e => sx (e ▸ Ma))).imp (fun q => .inr (.inr (.inl ⟨sx, sy, q⟩))) fun q => .inr (.inl ⟨sy, sx, q⟩)
          · exact (L2.tot x (i2 hx sx) y (i2 hy sy) hne).imp (fun q => .inr (.inr (.inr ⟨sx, sy, q⟩))) fun q => .inr (.inr (.inr ⟨sy, sx, q⟩))
        · have G1 := H1 N (mN.sub fun x hx => (mem_fl.mp hx).1)
          have G2 := H2 N (mN.sub fun x hx => (mem_fl.mp hx).1)
          rintro x hx y hy z hz r r' nx nz
          -- if N meets M and goes beyond it, it holds all of M
          by_cases My : M y
          · by_cases Mx : M x
            · by_cases Mz : M z
              · have r1 : R1 x y := by
                  rcases r with ⟨_, _, q⟩ | ⟨_, q, _⟩ | ⟨q, _, _⟩ | ⟨q, _, _⟩
                  · exact q
                  · exact absurd My q
                  · exact absurd Mx q
                  · exact absurd Mx q
                have r2 : R1 y z := by
                  rcases r' with ⟨_, _, q⟩ | ⟨_, q, _⟩ | ⟨q, _, _⟩ | ⟨q, _, _⟩
                  · exact q
                  · exact absurd Mz q
                  · exact absurd My q
                  · exact absurd My q
                exact G1 x (i1 hx Mx) y (i1 hy My) z (i1 hz Mz) r1 r2 nx nz
              · exact cross N mN ⟨x, hx, nx, Mx⟩ ⟨z, hz, nz, Mz⟩ y hy My
            · by_cases Mz : M z
              · exact cross N mN ⟨z, hz, nz, Mz⟩ ⟨x, hx, nx, Mx⟩ y hy My
              · -- x, a, z in the small order
                have r1 : R2 x a := by
                  rcases r with ⟨q, _, _⟩ | ⟨q, _, _⟩ | ⟨_, _, q⟩ | ⟨_, q, _⟩
                  · exact absurd q Mx
                  · exact absurd q Mx
                  · exact q
                  · exact absurd My q
                have r2 : R2 a z := by
                  rcases r' with ⟨_, q, _⟩ | ⟨_, _, q⟩ | ⟨q, _, _⟩ | ⟨q, _, _⟩
                  · exact absurd q Mz
                  · exact q
                  · exact absurd My q
                  · exact absurd My q
                have na : N a := G2 x (i2 hx Mx) a ia z (i2 hz Mz) r1 r2 nx nz
                exact cross N mN ⟨a, ha, na, Ma⟩ ⟨x, hx, nx, Mx⟩ y hy My
          · -- y beyond M: a for x or z where they are of M
            have ex : ∃ x', x' ∈ (fl V fun x => ¬ M x ∨ x = a) ∧ R2 x' y ∧ (M x → x' = a) ∧ (¬ M x → x' = x) := by
              rcases r with ⟨_, q, _⟩ | ⟨p, _, q⟩ | ⟨_, q, _⟩ | ⟨p, _, q⟩
              · exact absurd q My
              · exact ⟨a, ia, q, fun _ => rfl, fun z => absurd p z⟩
              · exact absurd q My
              · exact ⟨x, i2 hx p, q, fun z => absurd z p, fun _ => rfl⟩
            have ez : ∃ z', z' ∈ (fl V fun x => ¬ M x ∨ x = a) ∧ R2 y z' ∧ (M z → z' = a) ∧ (¬ M z → z' = z) := by
              rcases r' with ⟨q, _, _⟩ | ⟨q, _, _⟩ | ⟨_, p, q⟩ | ⟨_, p, q⟩
              · exact absurd q My
              · exact absurd q My
              · exact ⟨a, ia, q, fun _ => rfl, fun z => absurd p z⟩
              · exact ⟨z, i2 hz p, q, fun w => absurd w p, fun _ => rfl⟩
            obtain ⟨x', hx', rx, ex1, ex2⟩ := ex
            obtain ⟨z', hz', rz, ez1, ez2⟩ := ez
            -- both of M: y would be before and behind a
            by_cases Mx : M x
            · by_cases Mz : M z
              · rw [ex1 Mx] at rx
                rw [ez1 Mz] at rz
                exact absurd rz (L2.asy ia (i2 hy My) rx)
              · have na : N a := cross N mN ⟨x, hx, nx, Mx⟩ ⟨z, hz, nz, Mz⟩ a ha Ma
                rw [ex1 Mx] at rx
                rw [ez2 Mz] at rz
                exact G2 a ia y (i2 hy My) z (i2 hz Mz) rx rz na nz
            · by_cases Mz : M z
              · have na : N a := cross N mN ⟨z, hz, nz, Mz⟩ ⟨x, hx, nx, Mx⟩ a ha Ma
                rw [ex2 Mx] at rx
                rw [ez1 Mz] at rz
                exact G2 x (i2 hx Mx) y (i2 hy My) a ia rx rz nx na
              · rw [ex2 Mx] at rx
                rw [ez2 Mz] at rz
                exact G2 x (i2 hx Mx) y (i2 hy My) z (i2 hz Mz) rx rz nx nz
      · -- no module but the trivial ones: any order
        obtain ⟨R, L⟩ := some_lin V
        refine ⟨R, L, fun N mN => ?_, trivialCut R⟩
        rintro x hx y hy z hz r r' nx nz
        by_cases ny : N y
        · exact ny
        · have hxz : x ≠ z := fun e => L.asy hx hy r (e ▸ r')
          exact absurd ⟨N, mN, ⟨x, hx, z, hz, hxz, nx, nz⟩, y, hy, ny⟩ hm
end
end Sh
namespace Sh
section
variable {α : Type} {nb : α → List α}
theorem Lnk.drop : ∀ {c : List α} (j : Nat), Lnk nb c → Lnk nb (c.drop j)
  | c, 0, h => by simpa using h
  | [], _ + 1, h => by simpa using h
  | [x], j + 1, _ => by simp [Lnk]
  | x :: y :: r, j + 1, h => by
    rw [List.drop_succ_cons]
    exact Lnk.drop j h.2
theorem Lnk.app : ∀ {a b : List α}, Lnk nb a → Lnk nb b → (∀ x y, a.getLast? = some x → b.head? = some y → y ∈ nb x) → Lnk nb (a ++ b)
  | [], b, _, hb, _ => by simpa using hb
  | [x], [], _, _, _ => by simp [Lnk]
  | [x], y :: r, _, hb, h => ⟨h x y rfl rfl, hb⟩
  | x :: y :: r, b, ha, hb, h => by
    refine ⟨ha.1, ?_⟩
    exact Lnk.app (a := y :: r) ha.2 hb fun u v hu hv => h u v (by simpa using hu) hv
theorem Lnk.rev (sym : ∀ x y, y ∈ nb x → x ∈ nb y) (ok : ∀ x ∈ ([] : List α), True := fun _ _ => trivial) : ∀ {c : List α}, Lnk nb c → Lnk nb c.reverse
  | [], _ => trivial
  | [x], _ => trivial
  | x :: y :: r, h => by
    rw [List.reverse_cons]
    refine Lnk.app (Lnk.rev sym ok (c := y :: r) h.2) (by simp [Lnk]) fun u v hu hv => ?_
    have eu : u = y := by
      rw [List.getLast?_reverse] at hu
      simpa using hu.symm
    have ev : v = x := by simpa using hv.symm
    subst eu ev
    exact sym _ _ h.1
end
structure IsRing (n : Nat) (ws : List (List Int)) (c : List (Int × Int)) : Prop where
  l3 : 3 ≤ c.length
  odd : c.length % 2 = 1
  tn : ∀ t ∈ c, Turn n t
  ln : Lnk (nbT n ws) c
  cl : ∃ a z, c.head? = some a ∧ c.getLast? = some z ∧ a ∈ nbT n ws z
theorem nbT_sym {n : Nat} {ws : List (List Int)} {p q : Int × Int} (tp : Turn n p) (h : q ∈ nbT n ws p) : p ∈ nbT n ws q := by
  obtain ⟨_, h2⟩ := mem_nbT.mp h
  exact mem_nbT.mpr ⟨tp, by rw [bars_comm]; exact h2⟩
def nbS (n : Nat) (ws : List (List Int)) (p : Int × Int) : List (Int × Int) := (nbT n ws p).filter fun _ => decide (p ∈ allT n)
theorem mem_nbS {n : Nat} {ws : List (List Int)} {p q : Int × Int} : q ∈ nbS n ws p ↔ q ∈ nbT n ws p ∧ Turn n p := by
  unfold nbS
  rw [List.mem_filter, decide_eq_true_iff, mem_allT]
theorem Lnk.up {n : Nat} {ws : List (List Int)} : ∀ {c : List (Int × Int)}, Lnk (nbT n ws) c → (∀ t ∈ c, Turn n t) → Lnk (nbS n ws) c
  | [], _, _ => trivial
  | [x], _, _ => trivial
  | x :: y :: r, h, ht => ⟨mem_nbS.mpr ⟨h.1, ht x List.mem_cons_self⟩, Lnk.up h.2 fun t hm => ht t (List.mem_cons_of_mem _ hm)⟩
theorem Lnk.dn {n : Nat} {ws : List (List Int)} : ∀ {c : List (Int × Int)}, Lnk (nbS n ws) c → Lnk (nbT n ws) c
  | [], _ => trivial
  | [x], _ => trivial
  | x :: y :: r, h => ⟨(mem_nbS.mp h.1).1, Lnk.dn h.2⟩
theorem nbS_sym {n : Nat} {ws : List (List Int)} (x y : Int × Int) (h : y ∈ nbS n ws x) : x ∈ nbS n ws y := by
  obtain ⟨h1, h2⟩ := mem_nbS.mp h
  exact mem_nbS.mpr ⟨nbT_sym h2 h1, (mem_nbT.mp h1).1⟩
theorem ring_of {n : Nat} {ws : List (List Int)} {s t u : Int × Int} {c1 c2 : List (Int × Int)} {j : Nat} (ts : Turn n s) (h1 : Chn (nbT n ws) s t c1) (h2 : Chn (nbT n ws) s u c2) (hl : c1.length = c2.length) (hu : u ∈ nbT n ws t) (hj : j + 1 < c1.length) (he : c1[j]? = c2[j]?) :
    IsRing n ws (c1.drop j ++ (c2.drop (j + 1)).reverse) := by
  have hV : ∀ t q : Int × Int, q ∈ nbT n ws t → q ∈ allT n := fun t q h => mem_allT.mpr (mem_nbT.mp h).1
  have m1 : ∀ x ∈ c1, Turn n x := fun x hx => mem_allT.mp (h1.mem hV (mem_allT.mpr ts) x hx)
  have m2 : ∀ x ∈ c2, Turn n x := fun x hx => mem_allT.mp (h2.mem hV (mem_allT.mpr ts) x hx)
  have d1 : c1.drop j = c1[j] :: c1.drop (j + 1) := List.drop_eq_getElem_cons (by omega)
  have hj2 : j + 1 < c2.length := by omega
  have d2 : c2.drop (j + 1) = c2[j + 1] :: c2.drop (j + 2) := List.drop_eq_getElem_cons hj2
  have l1 : (c1.drop j).getLast? = some t := by
    rw [List.getLast?_drop, if_neg (by omega)]
    exact h1.lt
  have l2 : (c2.drop (j + 1)).getLast? = some u := by
    rw [List.getLast?_drop, if_neg (by omega)]
    exact h2.lt
  refine ⟨?_, ?_, ?_, ?_, ?_⟩
  · rw [List.length_append, List.length_reverse, List.length_drop, List.length_drop]; omega
  · rw [List.length_append, List.length_reverse, List.length_drop, List.length_drop]; omega
  · intro x hx
    rcases List.mem_append.mp hx with hx | hx
    · exact m1 x (List.mem_of_mem_drop hx)
    · exact m2 x (List.mem_of_mem_drop (List.mem_reverse.mp hx))
  · refine Lnk.app (h1.ln.drop j) ?_ fun x y hx hy => ?_
    · have : Lnk (nbS n ws) (c2.drop (j + 1)) := (h2.ln.drop (j + 1)).up fun x hx => m2 x (List.mem_of_mem_drop hx)
      exact (this.rev nbS_sym).dn
    · rw [l1] at hx
      rw [List.head?_reverse, l2] at hy
      cases hx
      cases hy
      exact hu
  · refine ⟨c1[j], c2[j + 1], ?_, ?_, ?_⟩
    · rw [d1]; rfl
    · rw [d2, List.reverse_cons, ← List.append_assoc, List.getLast?_append]
      simp
    · have e : c1[j] = c2[j] := by
        rw [List.getElem?_eq_getElem (by omega), List.getElem?_eq_getElem (by omega)] at he
        exact Option.some.inj he
      rw [e]
      have := h2.ln.at (i := j) (x := c2[j]) (y := c2[j + 1]) (List.getElem?_eq_getElem (by omega)) (List.getElem?_eq_getElem hj2)
      exact nbT_sym (m2 _ (List.getElem_mem (by omega))) this
def Col (n : Nat) (ws : List (List Int)) : Prop := ∃ f : Int × Int → Bool, ∀ t u, Turn n t → Turn n u → bars ws t u = true → f u = !f t
theorem lin_list {α : Type} (R : α → α → Prop) : ∀ V : List α, V.Nodup → Lin V R → ∃ os : List α, os.Perm V ∧ os.Pairwise R
  | [], _, _ => ⟨[], .nil, .nil⟩
  | x :: V, nd, L => by
    obtain ⟨nx, nv⟩ := List.nodup_cons.mp nd
    obtain ⟨os, h1, h2⟩ := lin_list R V nv ⟨fun y hy => L.irr y (List.mem_cons_of_mem _ hy), fun a ha b hb c hc => L.tra a (List.mem_cons_of_mem _ ha) b (List.mem_cons_of_mem _ hb) c (List.mem_cons_of_mem _ hc), fun a ha b hb => L.tot a (List.mem_cons_of_mem _ ha) b (List.mem_cons_of_mem _ hb)⟩
    let p : α → Bool := fun y => @decide (R y x) (Classical.propDecidable _)
    have pT : ∀ y, p y = true ↔ R y x := fun y => by
      show @decide (R y x) (Classical.propDecidable _) = true ↔ _
      exact @decide_eq_true_iff (R y x) (Classical.propDecidable _)
    refine ⟨os.filter p ++ x :: os.filter (fun y => !p y), ?_, ?_⟩
    · refine List.perm_middle.trans (List.Perm.cons x ?_)
      exact (List.filter_append_perm p os).trans h1
    · have mv : ∀ y ∈ os, y ∈ x :: V := fun y hy => List.mem_cons_of_mem _ (h1.mem_iff.mp hy)
      rw [List.pairwise_append]
      refine ⟨h2.filter _, List.pairwise_cons.mpr ⟨fun y hy => ?_, h2.filter _⟩, fun y hy z hz => ?_⟩
      · obtain ⟨hy1, hy2⟩ := List.mem_filter.mp hy
        have hn : ¬ R y x := fun q => by
          rw [(pT y).mpr q] at hy2
          cases hy2
        have ne : x ≠ y := fun e => nx (by rw [e]; exact h1.mem_iff.mp hy1)
        exact (L.tot x List.mem_cons_self y (mv y hy1) ne).resolve_right hn
      · obtain ⟨hy1, hy2⟩ := List.mem_filter.mp hy
        have ryx : R y x := (pT y).mp hy2
        rcases List.mem_cons.mp hz with rfl | hz
        · exact ryx
        · obtain ⟨hz1, hz2⟩ := List.mem_filter.mp hz
          have hn : ¬ R z x := fun q => by
            rw [(pT z).mpr q] at hz2
            cases hz2
          have ne : x ≠ z := fun e => nx (by rw [e]; exact h1.mem_iff.mp hz1)
          exact L.tra y (mv y hy1) x List.mem_cons_self z (mv z hz1) ryx ((L.tot x List.mem_cons_self z (mv z hz1) ne).resolve_right hn)
theorem bars_onw {ws : List (List Int)} {a b c : Int} (h : a ≠ c → split ws a b c = true) : bars ws (a, b) (b, c) = true := by
  unfold bars onw
  by_cases e : a = c
  · simp [e]
  · simp [e, h e]
theorem col_order {n : Nat} {ws : List (List Int)} (hg : InB n ws) (C : Col n ws) : ∃ os, IsO n os ∧ Kp ws os = true := by
  obtain ⟨f, hf⟩ := C
  have tn : ∀ {x y : Int}, x ∈ rangeI n → y ∈ rangeI n → x ≠ y → Turn n (x, y) := fun {x y} hx hy h => ⟨(mem_rangeI.mp hx).1, (mem_rangeI.mp hx).2, (mem_rangeI.mp hy).1, (mem_rangeI.mp hy).2, h⟩
  have sw : ∀ {x y : Int}, x ∈ rangeI n → y ∈ rangeI n → x ≠ y → f (y, x) = !f (x, y) := fun {x y} hx hy h => hf _ _ (tn hx hy h) (tn hy hx (Ne.symm h)) (bars_onw fun z => absurd rfl z)
  have T : Tourn (fun x y => f (x, y) = true) (rangeI n) := fun x hx y hy h => by
    have := sw hx hy h
    cases q : f (x, y) with
    | true => exact .inl ⟨q, fun (z : f (y, x) = true) => by rw [this, q] at z; cases z⟩
    | false => exact .inr ⟨by show f (y, x) = true; rw [this, q]; rfl, fun (z : f (x, y) = true) => by rw [q] at z; cases z⟩
  obtain ⟨R, L, hm, _⟩ := tour (fun x y => f (x, y) = true) (rangeI n).length (rangeI n) (Nat.le_refl _) T
  obtain ⟨os, p1, p2⟩ := lin_list R (rangeI n) (rangeI_nodup n) L
  refine ⟨os, p1, kp_iff.mpr fun w hw => tog_iff.mpr fun a b r e => ?_⟩
  have M : Mod (fun x y => f (x, y) = true) (rangeI n) (fun x => x ∈ w) := fun x hx nx => by
    have same : ∀ y ∈ rangeI n, y ∈ w → ∀ z ∈ rangeI n, z ∈ w → f (x, z) = f (x, y) := fun y hy yw z hz zw => by
      have nxy : x ≠ y := fun e => nx (by rw [e]; exact yw)
      have nxz : x ≠ z := fun e => nx (by rw [e]; exact zw)
      have h1 := hf (y, x) (x, z) (tn hy hx (Ne.symm nxy)) (tn hx hz nxz) (bars_onw fun hne => List.any_eq_true.mpr ⟨w, hw, by simp [yw, zw, nx]⟩)
      rw [h1, sw hx hy nxy, Bool.not_not]
    by_cases h : ∃ y, y ∈ rangeI n ∧ y ∈ w ∧ f (x, y) = true
    · obtain ⟨y, hy, yw, q⟩ := h
      exact .inl fun z hz zw => by show f (x, z) = true; rw [same y hy yw z hz zw]; exact q
    · refine .inr fun z hz zw => ?_
      have nxz : x ≠ z := fun e => nx (by rw [e]; exact zw)
      have : f (x, z) = false := by
        cases q : f (x, z) with
        | false => rfl
        | true => exact absurd ⟨z, hz, zw, q⟩ h
      show f (z, x) = true
      rw [sw hx hz nxz, this]
      rfl
  by_cases bw : b ∈ w
  · exact .inl bw
  · refine .inr ?_
    by_cases h : ∀ x ∈ a, x ∉ w
    · exact .inl h
    · refine .inr fun z hz zw => ?_
      obtain ⟨x, hx⟩ := Classical.not_forall.mp h
      obtain ⟨hxa, hx2⟩ := Classical.not_imp.mp hx
      have xw : x ∈ w := Classical.not_not.mp hx2
      rw [e, List.pairwise_append] at p2
      have inn : ∀ y, y ∈ os → y ∈ rangeI n := fun y hy => p1.mem_iff.mp hy
      have r1 : R x b := p2.2.2 x hxa b List.mem_cons_self
      have r2 : R b z := (List.pairwise_cons.mp p2.2.1).1 z hz
      exact bw (hm _ M x (inn x (by rw [e]; simp [hxa])) b (inn b (by rw [e]; simp)) z (inn z (by rw [e]; simp [hz])) r1 r2 xw zw)
structure Part (n : Nat) (ws : List (List Int)) (R : Int × Int → Prop) (f : Int × Int → Bool) : Prop where
  tn : ∀ t, R t → Turn n t
  cl : ∀ t u, R t → u ∈ nbT n ws t → R u
  pr : ∀ t u, R t → u ∈ nbT n ws t → f u = !f t
theorem Part.none {n : Nat} {ws : List (List Int)} : Part n ws (fun _ => False) (fun _ => false) := ⟨fun _ h => h.elim, fun _ _ h => h.elim, fun _ _ h => h.elim⟩
theorem Part.col {n : Nat} {ws : List (List Int)} {R : Int × Int → Prop} {f : Int × Int → Bool} (P : Part n ws R f) (h : ∀ t, Turn n t → R t) : Col n ws := ⟨f, fun t u ht hu hb => P.pr t u (h t ht) (mem_nbT.mpr ⟨hu, hb⟩)⟩
theorem Part.join {n : Nat} {ws : List (List Int)} {R S : Int × Int → Prop} {f g : Int × Int → Bool} (P : Part n ws R f) (Q : Part n ws S g) : ∃ h, Part n ws (fun t => R t ∨ S t) h := by
  refine ⟨fun t => @ite Bool (S t) (Classical.propDecidable _) (g t) (f t), fun t h => h.elim (P.tn t) (Q.tn t), fun t u h hu => h.imp (fun z => P.cl t u z hu) (fun z => Q.cl t u z hu), fun t u h hu => ?_⟩
  by_cases ht : S t
  · have hu2 := Q.cl t u ht hu
    simp only [if_pos ht, if_pos hu2]
    exact Q.pr t u ht hu
  · have rt : R t := h.resolve_right ht
    have hu2 : ¬ S u := fun z => ht (Q.cl u t z (nbT_sym (P.tn t rt) hu))
    simp only [if_neg ht, if_neg hu2]
    exact P.pr t u rt hu
theorem Bfs.part {n : Nat} {ws : List (List Int)} {s : Int × Int} {k : Nat} {paths : List ((Int × Int) × List (Int × Int))} {done : Int × Int → Int × Int → Prop} (B : Bfs (nbT n ws) s k paths [] done) (he : ∀ t c, (t, c) ∈ paths → c.length ≠ k + 1) (tn : ∀ t c, (t, c) ∈ paths → Turn n t)
    (no : ∀ t c u c', (t, c) ∈ paths → u ∈ nbT n ws t → (u, c') ∈ paths → c'.length ≠ c.length) : ∃ g, Part n ws (fun t => ∃ c, (t, c) ∈ paths) g := by
  have cl : ∀ t u, (∃ c, (t, c) ∈ paths) → u ∈ nbT n ws t → ∃ c, (u, c) ∈ paths := fun t u ⟨c, hc⟩ hu => B.all he u _ ((B.ch t c hc).1.snoc hu)
  refine ⟨fun t => @decide (∃ c, (t, c) ∈ paths ∧ c.length % 2 = 1) (Classical.propDecidable _), fun t ⟨c, hc⟩ => tn t c hc, cl, fun t u ⟨c, hc⟩ hu => ?_⟩
  obtain ⟨c', hc'⟩ := cl t u ⟨c, hc⟩ hu
  have val : ∀ {t c}, (t, c) ∈ paths → @decide (∃ c, (t, c) ∈ paths ∧ c.length % 2 = 1) (Classical.propDecidable _) = decide (c.length % 2 = 1) := fun {t c} h => by
    rw [Bool.eq_iff_iff, @decide_eq_true_iff _ (Classical.propDecidable _), decide_eq_true_iff]
    exact ⟨fun ⟨d, hd, e⟩ => by rw [B.key h hd]; exact e, fun e => ⟨c, h, e⟩⟩
  have a1 := (B.ch u c' hc').2 _ ((B.ch t c hc).1.snoc hu)
  have a2 := (B.ch t c hc).2 _ ((B.ch u c' hc').1.snoc (nbT_sym (tn t c hc) hu))
  have a3 := no t c u c' hc hu hc'
  rw [List.length_append, List.length_singleton] at a1 a2
  simp only [val hc, val hc']
  rw [Bool.eq_iff_iff, Bool.not_eq_true', decide_eq_true_iff, decide_eq_false_iff_not]
  omega
end Sh
namespace Sh
theorem cl_rising (p : List Int → Bool) (n : Nat) : ∀ k, (cl p n k).Pairwise (· < ·)
  | 0 => rangeI_lt n
  | k + 1 => by
    have ih := cl_rising p n k
    unfold cl
    split
    · exact ih.filter _
    · exact ih
theorem cl_keep (p : List Int → Bool) (n : Nat) (h0 : p (rangeI n) = true) : ∀ k, p (cl p n k) = true
  | 0 => h0
  | k + 1 => by
    have ih := cl_keep p n h0 k
    unfold cl
    split
    · assumption
    · exact ih
theorem cl_down (p : List Int → Bool) (n : Nat) : ∀ j k, ∀ x ∈ cl p n (k + j), x ∈ cl p n k
  | 0, k, x, hx => hx
  | j + 1, k, x, hx => by
    have : x ∈ cl p n (k + j) := by
      rw [show k + (j + 1) = k + j + 1 by omega] at hx
      unfold cl at hx
      split at hx
      · exact (List.mem_filter.mp hx).1
      · exact hx
    exact cl_down p n j k x this
def Up (p : List Int → Bool) : Prop := ∀ a b : List Int, (∀ x ∈ a, x ∈ b) → p a = true → p b = true
theorem cl_last (p : List Int → Bool) (n : Nat) (hu : Up p) {x : Int} (hx : x ∈ cl p n n) : p ((cl p n n).filter fun y => decide (y ≠ x)) = false := by
  have hr := cl_sub p n n x hx
  have ex : ((x.toNat : Nat) : Int) = x := by omega
  have hk : x.toNat + 1 ≤ n := by omega
  have h1 : x ∈ cl p n (x.toNat + 1) := by
    have := cl_down p n (n - (x.toNat + 1)) (x.toNat + 1) x (by rw [show x.toNat + 1 + (n - (x.toNat + 1)) = n by omega]; exact hx)
    exact this
  have hno : ¬ p ((cl p n x.toNat).filter fun y => decide (y ≠ ((x.toNat : Nat) : Int))) = true := fun z => by
    unfold cl at h1
    rw [if_pos z] at h1
    have := of_decide_eq_true (List.mem_filter.mp h1).2
    exact this ex.symm
  rw [ex] at hno
  rw [Bool.eq_false_iff]
  intro z
  refine hno (hu _ _ (fun y hy => ?_) z)
  obtain ⟨hy1, hy2⟩ := List.mem_filter.mp hy
  refine List.mem_filter.mpr ⟨?_, hy2⟩
  exact cl_down p n (n - x.toNat) x.toNat y (by rw [show x.toNat + (n - x.toNat) = n by omega]; exact hy1)
theorem pick_range (ws : List (List Int)) : pick ws (rangeI ws.length) = ws := by
  unfold pick rangeI
  rw [List.map_map]
  refine List.ext_getElem? fun i => ?_
  rw [List.getElem?_map]
  by_cases h : i < ws.length
  · rw [List.getElem?_range h, List.getElem?_eq_getElem h]
    simp [h]
  · rw [List.getElem?_eq_none (by simpa using h), List.getElem?_eq_none (by omega)]
    rfl
def nonP (many : Nat) (ws : List (List Int)) : List Int → Bool := fun ids => (fst many (pick ws ids)).isNone
theorem nonP_up {many : Nat} {ws : List (List Int)} (hg : InB many ws) : Up (nonP many ws) := by
  intro a b hab h
  have sub : ∀ ids : List Int, InB many (pick ws ids) := fun ids w hw x hx => by
    obtain ⟨i, _, rfl⟩ := List.mem_map.mp hw
    by_cases hi : i.toNat < ws.length
    · rw [List.getD_eq_getElem?_getD, List.getElem?_eq_getElem hi] at hx
      exact hg _ (List.getElem_mem hi) x hx
    · rw [List.getD_eq_getElem?_getD, List.getElem?_eq_none (by omega)] at hx
      simp at hx
  unfold nonP at h ⊢
  rw [Option.isNone_iff_eq_none, fst_none (sub _)] at h ⊢
  intro os ho hk
  refine h os ho (kp_iff.mpr fun w hw => ?_)
  obtain ⟨i, hi, rfl⟩ := List.mem_map.mp hw
  exact kp_iff.mp hk _ (List.mem_map.mpr ⟨i, hab i hi, rfl⟩)
theorem nonP_nil {many : Nat} {ws : List (List Int)} : nonP many ws [] = false := by
  unfold nonP
  have h : ∃ u, fst many (pick ws []) = some u ∧ lle u (rangeI many) = true := fst_least (fun w hw => by simp [pick] at hw) (List.Perm.refl _) rfl
  obtain ⟨u, hu, _⟩ := h
  rw [hu]
  rfl
end Sh
namespace L2
open PySem PySem.Spec PyProof.Rows
theorem c_pick2 {K : PySem.W.Frag} {lo lw lp : Addr} {ids : List Int} {k : Int} {ws : List (List Int)} {H : Hp} {Q : Hp → Prop} (hS : SqL K H lo (ids.map V.int)) (hW : WL H lw ws) (hi : ∀ x ∈ ids, 0 ≤ x ∧ x < (ws.length : Int)) (hlen : ids.length ≤ 1000) (fp : H lp = none) (q : ∀ H', Same H H' → WL H' lp (Sh.pick ws (ids.filter fun x => decide (x ≠ k))) → Q H') :
    cLoop (Itl K lo) lp (gName 0) (tTest (tOp rNe (tVar 0) (tVar 2))) (tOp (rIxL K) (tVar 1) (tVar 0)) [none, some (.ref lw), some (.int k)] (upd H lp (.lst [])) Q := by
  obtain ⟨as, hA, hP⟩ := hW
  refine c_list (K := K) (a := lo) (xs := ids.map V.int) (fun j ys σ H' => ∃ u, σ = [u, some (.ref lw), some (.int k)] ∧ Same H H' ∧ H' lp = some (.lst ys) ∧ ∃ cs : List Addr, ys = cs.map V.ref ∧ Paired (fun b w => H b = some (.lst (w.map V.int))) cs (Sh.pick ws ((ids.take j).filter fun x => decide (x ≠ k))))
    ⟨none, rfl, Same.new fp, upd_same, [], rfl, .nil⟩ (fun j ys σ H' _ ⟨_, _, s, _⟩ => s.seq hS) ?_ ?_
  · rintro j x ys σ H' hj ⟨u, rfl, s, hL, cs, rfl, hC⟩
    rw [List.getElem?_map] at hj
    cases e : ids[j]? with
    | none => rw [e] at hj; cases hj
    | some z =>
      rw [e] at hj
      obtain rfl : V.int z = x := Option.some.inj hj
      have es : (ids.take (j + 1)).filter (fun x => decide (x ≠ k)) = (ids.take j).filter (fun x => decide (x ≠ k)) ++ (if z ≠ k then [z] else []) := by
        rw [List.take_add_one, e, List.filter_append]
        congr 1
        by_cases h : z = k
        · simp [h]
        · simp [h]
      refine ⟨_, rfl, _, rfl, rfl, _, rfl, ?_⟩
      by_cases h : z = k
      · rw [decide_eq_true (congrArg V.int h)]
        refine iteF ?_
        refine ⟨_, rfl, s, hL, cs, rfl, ?_⟩
        rw [es, if_neg (by simpa using h), List.append_nil]
        exact hC
      · rw [decide_eq_false (fun e => h (V.int.inj e))]
        refine iteT ?_
        have hz := hi z (List.mem_of_getElem? e)
        have hlt : z.toNat < ws.length := by omega
        obtain ⟨b, hb, hbw⟩ := paired_get (i := z.toNat) (b := ws[z.toNat]) hP (by simp [hlt])
        have e2 : (as.map V.ref)[z.toNat]? = some (V.ref b) := by rw [List.getElem?_map, hb]; rfl
        have e3 := atI_nat e2
        rw [Int.toNat_of_nonneg hz.1] at e3
        refine ⟨_, rfl, _, rfl, lw, _, z, _, rfl, rfl, SqL.of (s _ _ hA), e3, hL, ?_, _, rfl, s.put fp, upd_same, cs ++ [b], ?_, ?_⟩
        · rw [List.length_map, Paired.length hC]
          unfold Sh.pick
          rw [List.length_map]
          have h1 := List.length_filter_le (fun x => decide (x ≠ k)) (ids.take j)
          have h2 := List.length_take_le' j ids
          exact small1000 (by omega)
        · rw [List.map_append]
          rfl
        · rw [es, if_pos h]
          unfold Sh.pick
          rw [List.map_append]
          refine Paired.snoc hC ?_
          show H b = some (HO.lst (List.map V.int (ws.getD z.toNat [])))
          rw [List.getD_eq_getElem?_getD, List.getElem?_eq_getElem hlt]
          exact hbw
  · rintro ys σ H' ⟨u, rfl, s, hL, cs, rfl, hC⟩
    rw [List.length_map, List.take_length] at hC
    exact q H' s ⟨cs, hL, Paired.mapP hC fun b w e => s _ _ e⟩
end L2
namespace L2
open PySem PySem.Spec PyProof.Rows
section
open PySem.SeqAt
open PySem.AutoSeq1 (wpAny_loadPart')
open PySem.MeetsSeq PySem.MeetsSeq2 PySem.MeetsSeq3
end
section
variable {X : Cx}
end
end L2
namespace L2
open PySem PySem.Spec PyProof.Rows
end L2
namespace Sh
end Sh

namespace K08
open PySem L2
set_option maxRecDepth 100000
def top (i : Nat) : Stmt := PySem.Challenge.pw_shelfruns_k08_whole_clashes.main.body.getD i (.Pass ⟨0, 0, 0, 0⟩)
abbrev s__law_cell_at : Stmt := top 23
theorem sc__law_cell_at : FnScope ["script", "k"] ["script", "k"] (defScope s__law_cell_at) := ⟨rfl, rfl, rfl, by decide +kernel, rfl, by decide +kernel, by decide +kernel⟩
abbrev s__law_set : Stmt := top 25
theorem sc__law_set : FnScope ["cell", "many", "some", "book"] ["cell", "many"] (defScope s__law_set) := ⟨rfl, rfl, rfl, by decide +kernel, rfl, by decide +kernel, by decide +kernel⟩
abbrev s__law_order : Stmt := top 26
theorem sc__law_order : FnScope ["script", "at", "many", "left", "order", "k"] ["script", "at", "many"] (defScope s__law_order) := ⟨rfl, rfl, rfl, by decide +kernel, rfl, by decide +kernel, by decide +kernel⟩
abbrev s__law_wish : Stmt := top 27
theorem sc__law_wish : FnScope ["cell", "many", "order", "low", "size", "wish"] ["cell", "many", "order"] (defScope s__law_wish) := ⟨rfl, rfl, rfl, by decide +kernel, rfl, by decide +kernel, by decide +kernel⟩
abbrev s__law_wishes : Stmt := top 28
theorem sc__law_wishes : FnScope ["script", "at", "most", "few", "cell", "many", "count", "order", "wishes", "k", "one", "other"] ["script", "at", "most", "few"] (defScope s__law_wishes) := ⟨rfl, rfl, rfl, by decide +kernel, rfl, by decide +kernel, by decide +kernel⟩
abbrev s_check_books : Stmt := top 5
theorem sc_check_books : FnScope ["many", "books", "book"] ["many", "books"] (defScope s_check_books) := ⟨rfl, rfl, rfl, by decide +kernel, rfl, by decide +kernel, by decide +kernel⟩
abbrev s_check_wishes : Stmt := top 6
theorem sc_check_wishes : FnScope ["many", "wishes", "wish"] ["many", "wishes"] (defScope s_check_wishes) := ⟨rfl, rfl, rfl, by decide +kernel, rfl, by decide +kernel, by decide +kernel⟩
abbrev s_barring_onward : Stmt := top 10
theorem sc_barring_onward : FnScope ["wishes", "one", "other"] ["wishes", "one", "other"] (defScope s_barring_onward) := ⟨rfl, rfl, rfl, by decide +kernel, rfl, by decide +kernel, by decide +kernel⟩
abbrev own_barring_onward_c0 : List Str := ["wish"]
abbrev cap_barring_onward_c0 : List (Str × Nat) := [("one", 1), ("other", 2)]
abbrev lc_barring_onward_c0 : Scope := { kind := PySem.ScopeKind.function, names := [(PySem.Str.ofString ".0", PySem.NameKind.local), (PySem.Str.ofString "wish", PySem.NameKind.local), (PySem.Str.ofString "one", PySem.NameKind.free), (PySem.Str.ofString "other", PySem.NameKind.free)], isGenerator := false, isCoroutine := false, more := [] }
theorem nd_barring_onward_c0 : (own_barring_onward_c0 ++ cap_barring_onward_c0.map (·.1)).Nodup := by decide +kernel
theorem bs_barring_onward_c0 : BlkSc ["wishes", "one", "other"] (defScope s_barring_onward) own_barring_onward_c0 cap_barring_onward_c0 lc_barring_onward_c0 := ⟨rfl, by decide +kernel, by decide +kernel, by decide +kernel, by decide +kernel⟩
abbrev s_barring : Stmt := top 9
theorem sc_barring : FnScope ["wishes", "one", "other"] ["wishes", "one", "other"] (defScope s_barring) := ⟨rfl, rfl, rfl, by decide +kernel, rfl, by decide +kernel, by decide +kernel⟩
abbrev s_all_turns : Stmt := top 11
theorem sc_all_turns : FnScope ["many", "turns", "ahead", "behind"] ["many"] (defScope s_all_turns) := ⟨rfl, rfl, rfl, by decide +kernel, rfl, by decide +kernel, by decide +kernel⟩
abbrev s_barred_turns : Stmt := top 12
theorem sc_barred_turns : FnScope ["many", "wishes", "turns", "short_wishes", "barred", "turn"] ["many", "wishes"] (defScope s_barred_turns) := ⟨rfl, rfl, rfl, by decide +kernel, rfl, by decide +kernel, by decide +kernel⟩
abbrev own_barred_turns_c0 : List Str := ["other"]
abbrev cap_barred_turns_c0 : List (Str × Nat) := [("short_wishes", 3), ("turn", 5)]
abbrev lc_barred_turns_c0 : Scope := { kind := PySem.ScopeKind.function, names := [(PySem.Str.ofString ".0", PySem.NameKind.local), (PySem.Str.ofString "other", PySem.NameKind.local), (PySem.Str.ofString "barring", PySem.NameKind.globalImplicit), (PySem.Str.ofString "short_wishes", PySem.NameKind.free), (PySem.Str.ofString "turn", PySem.NameKind.free)], isGenerator := false, isCoroutine := false, more := [] }
theorem nd_barred_turns_c0 : (own_barred_turns_c0 ++ cap_barred_turns_c0.map (·.1)).Nodup := by decide +kernel
theorem bs_barred_turns_c0 : BlkSc ["many", "wishes", "turns", "short_wishes", "barred", "turn"] (defScope s_barred_turns) own_barred_turns_c0 cap_barred_turns_c0 lc_barred_turns_c0 := ⟨rfl, by decide +kernel, by decide +kernel, by decide +kernel, by decide +kernel⟩
abbrev own_barred_turns_c1 : List Str := ["wish"]
abbrev cap_barred_turns_c1 : List (Str × Nat) := []
abbrev lc_barred_turns_c1 : Scope := { kind := PySem.ScopeKind.function, names := [(PySem.Str.ofString ".0", PySem.NameKind.local), (PySem.Str.ofString "wish", PySem.NameKind.local), (PySem.Str.ofString "sorted", PySem.NameKind.globalImplicit), (PySem.Str.ofString "set", PySem.NameKind.globalImplicit)], isGenerator := false, isCoroutine := false, more := [] }
theorem nd_barred_turns_c1 : (own_barred_turns_c1 ++ cap_barred_turns_c1.map (·.1)).Nodup := by decide +kernel
theorem bs_barred_turns_c1 : BlkSc ["many", "wishes", "turns", "short_wishes", "barred", "turn"] (defScope s_barred_turns) own_barred_turns_c1 cap_barred_turns_c1 lc_barred_turns_c1 := ⟨rfl, by decide +kernel, by decide +kernel, by decide +kernel, by decide +kernel⟩
abbrev s_paths_from : Stmt := top 13
theorem sc_paths_from : FnScope ["barred", "start", "paths", "outermost", "found", "turn", "near"] ["barred", "start"] (defScope s_paths_from) := ⟨rfl, rfl, rfl, by decide +kernel, rfl, by decide +kernel, by decide +kernel⟩
abbrev s_bits_of : Stmt := top 20
theorem sc_bits_of : FnScope ["books", "bits", "book"] ["books"] (defScope s_bits_of) := ⟨rfl, rfl, rfl, by decide +kernel, rfl, by decide +kernel, by decide +kernel⟩
abbrev s_has : Stmt := top 21
theorem sc_has : FnScope ["bits", "book"] ["bits", "book"] (defScope s_has) := ⟨rfl, rfl, rfl, by decide +kernel, rfl, by decide +kernel, by decide +kernel⟩
abbrev s_Search___init__ : Stmt := inClass (top 19) 0
theorem sc_Search___init__ : FnScope ["self", "many", "wishes"] ["self", "many", "wishes"] (defScope s_Search___init__) := ⟨rfl, rfl, rfl, by decide +kernel, rfl, by decide +kernel, by decide +kernel⟩
abbrev own_Search___init___c0 : List Str := ["wish"]
abbrev cap_Search___init___c0 : List (Str × Nat) := []
abbrev lc_Search___init___c0 : Scope := { kind := PySem.ScopeKind.function, names := [(PySem.Str.ofString ".0", PySem.NameKind.local), (PySem.Str.ofString "wish", PySem.NameKind.local), (PySem.Str.ofString "bits_of", PySem.NameKind.globalImplicit)], isGenerator := false, isCoroutine := false, more := [] }
theorem nd_Search___init___c0 : (own_Search___init___c0 ++ cap_Search___init___c0.map (·.1)).Nodup := by decide +kernel
theorem bs_Search___init___c0 : BlkSc ["self", "many", "wishes"] (defScope s_Search___init__) own_Search___init___c0 cap_Search___init___c0 lc_Search___init___c0 := ⟨rfl, by decide +kernel, by decide +kernel, by decide +kernel, by decide +kernel⟩
abbrev s_Search_next_books : Stmt := inClass (top 19) 1
theorem sc_Search_next_books : FnScope ["self", "begun", "placed", "books", "wish"] ["self", "begun"] (defScope s_Search_next_books) := ⟨rfl, rfl, rfl, by decide +kernel, rfl, by decide +kernel, by decide +kernel⟩
abbrev own_Search_next_books_c0 : List Str := ["book"]
abbrev cap_Search_next_books_c0 : List (Str × Nat) := [("wish", 4)]
abbrev lc_Search_next_books_c0 : Scope := { kind := PySem.ScopeKind.function, names := [(PySem.Str.ofString ".0", PySem.NameKind.local), (PySem.Str.ofString "book", PySem.NameKind.local), (PySem.Str.ofString "has", PySem.NameKind.globalImplicit), (PySem.Str.ofString "wish", PySem.NameKind.free)], isGenerator := false, isCoroutine := false, more := [] }
theorem nd_Search_next_books_c0 : (own_Search_next_books_c0 ++ cap_Search_next_books_c0.map (·.1)).Nodup := by decide +kernel
theorem bs_Search_next_books_c0 : BlkSc ["self", "begun", "placed", "books", "wish"] (defScope s_Search_next_books) own_Search_next_books_c0 cap_Search_next_books_c0 lc_Search_next_books_c0 := ⟨rfl, by decide +kernel, by decide +kernel, by decide +kernel, by decide +kernel⟩
abbrev own_Search_next_books_c1 : List Str := ["book"]
abbrev cap_Search_next_books_c1 : List (Str × Nat) := [("placed", 2)]
abbrev lc_Search_next_books_c1 : Scope := { kind := PySem.ScopeKind.function, names := [(PySem.Str.ofString ".0", PySem.NameKind.local), (PySem.Str.ofString "book", PySem.NameKind.local), (PySem.Str.ofString "has", PySem.NameKind.globalImplicit), (PySem.Str.ofString "placed", PySem.NameKind.free)], isGenerator := false, isCoroutine := false, more := [] }
theorem nd_Search_next_books_c1 : (own_Search_next_books_c1 ++ cap_Search_next_books_c1.map (·.1)).Nodup := by decide +kernel
theorem bs_Search_next_books_c1 : BlkSc ["self", "begun", "placed", "books", "wish"] (defScope s_Search_next_books) own_Search_next_books_c1 cap_Search_next_books_c1 lc_Search_next_books_c1 := ⟨rfl, by decide +kernel, by decide +kernel, by decide +kernel, by decide +kernel⟩
abbrev s_Search_completed : Stmt := inClass (top 19) 3
theorem sc_Search_completed : FnScope ["self", "begun", "placed", "order"] ["self", "begun"] (defScope s_Search_completed) := ⟨rfl, rfl, rfl, by decide +kernel, rfl, by decide +kernel, by decide +kernel⟩
abbrev s_Search_completed_with : Stmt := inClass (top 19) 4
theorem sc_Search_completed_with : FnScope ["self", "begun", "books", "book", "order"] ["self", "begun", "books"] (defScope s_Search_completed_with) := ⟨rfl, rfl, rfl, by decide +kernel, rfl, by decide +kernel, by decide +kernel⟩
abbrev s_first : Stmt := top 17
theorem sc_first : FnScope ["many", "wishes"] ["many", "wishes"] (defScope s_first) := ⟨rfl, rfl, rfl, by decide +kernel, rfl, by decide +kernel, by decide +kernel⟩
abbrev s_ring_of_paths : Stmt := top 15
theorem sc_ring_of_paths : FnScope ["one", "other", "shared"] ["one", "other"] (defScope s_ring_of_paths) := ⟨rfl, rfl, rfl, by decide +kernel, rfl, by decide +kernel, by decide +kernel⟩
abbrev s_ring_among : Stmt := top 14
theorem sc_ring_among : FnScope ["barred", "paths", "turn", "near"] ["barred", "paths"] (defScope s_ring_among) := ⟨rfl, rfl, rfl, by decide +kernel, rfl, by decide +kernel, by decide +kernel⟩
abbrev s_odd_ring : Stmt := top 8
theorem sc_odd_ring : FnScope ["many", "wishes", "barred", "reached", "turn", "paths", "ring"] ["many", "wishes"] (defScope s_odd_ring) := ⟨rfl, rfl, rfl, by decide +kernel, rfl, by decide +kernel, by decide +kernel⟩
abbrev s_clash : Stmt := top 18
theorem sc_clash : FnScope ["many", "wishes", "left", "number", "others"] ["many", "wishes"] (defScope s_clash) := ⟨rfl, rfl, rfl, by decide +kernel, rfl, by decide +kernel, by decide +kernel⟩
abbrev own_clash_c0 : List Str := ["other"]
abbrev cap_clash_c0 : List (Str × Nat) := [("wishes", 1)]
abbrev lc_clash_c0 : Scope := { kind := PySem.ScopeKind.function, names := [(PySem.Str.ofString ".0", PySem.NameKind.local), (PySem.Str.ofString "other", PySem.NameKind.local), (PySem.Str.ofString "wishes", PySem.NameKind.free)], isGenerator := false, isCoroutine := false, more := [] }
theorem nd_clash_c0 : (own_clash_c0 ++ cap_clash_c0.map (·.1)).Nodup := by decide +kernel
theorem bs_clash_c0 : BlkSc ["many", "wishes", "left", "number", "others"] (defScope s_clash) own_clash_c0 cap_clash_c0 lc_clash_c0 := ⟨rfl, by decide +kernel, by decide +kernel, by decide +kernel, by decide +kernel⟩
abbrev own_clash_c1 : List Str := ["other"]
abbrev cap_clash_c1 : List (Str × Nat) := [("number", 3)]
abbrev lc_clash_c1 : Scope := { kind := PySem.ScopeKind.function, names := [(PySem.Str.ofString ".0", PySem.NameKind.local), (PySem.Str.ofString "other", PySem.NameKind.local), (PySem.Str.ofString "number", PySem.NameKind.free)], isGenerator := false, isCoroutine := false, more := [] }
theorem nd_clash_c1 : (own_clash_c1 ++ cap_clash_c1.map (·.1)).Nodup := by decide +kernel
theorem bs_clash_c1 : BlkSc ["many", "wishes", "left", "number", "others"] (defScope s_clash) own_clash_c1 cap_clash_c1 lc_clash_c1 := ⟨rfl, by decide +kernel, by decide +kernel, by decide +kernel, by decide +kernel⟩
abbrev s__law_split : Stmt := top 32
theorem sc__law_split : FnScope ["wishes", "a", "b", "c", "wish"] ["wishes", "a", "b", "c"] (defScope s__law_split) := ⟨rfl, rfl, rfl, by decide +kernel, rfl, by decide +kernel, by decide +kernel⟩
abbrev s__law_bar : Stmt := top 33
theorem sc__law_bar : FnScope ["wishes", "one", "other"] ["wishes", "one", "other"] (defScope s__law_bar) := ⟨rfl, rfl, rfl, by decide +kernel, rfl, by decide +kernel, by decide +kernel⟩
abbrev s__law_whole : Stmt := top 24
theorem sc__law_whole : FnScope ["found"] ["found"] (defScope s__law_whole) := ⟨rfl, rfl, rfl, by decide +kernel, rfl, by decide +kernel, by decide +kernel⟩
abbrev s__law_is_turn : Stmt := top 34
theorem sc__law_is_turn : FnScope ["found", "many"] ["found", "many"] (defScope s__law_is_turn) := ⟨rfl, rfl, rfl, by decide +kernel, rfl, by decide +kernel, by decide +kernel⟩
abbrev s__law_together : Stmt := top 29
theorem sc__law_together : FnScope ["order", "wish", "begun", "over", "book"] ["order", "wish"] (defScope s__law_together) := ⟨rfl, rfl, rfl, by decide +kernel, rfl, by decide +kernel, by decide +kernel⟩
abbrev s__law_keeps : Stmt := top 30
theorem sc__law_keeps : FnScope ["order", "wishes", "wish"] ["order", "wishes"] (defScope s__law_keeps) := ⟨rfl, rfl, rfl, by decide +kernel, rfl, by decide +kernel, by decide +kernel⟩
abbrev s__law_is_order : Stmt := top 31
theorem sc__law_is_order : FnScope ["found", "many", "book"] ["found", "many"] (defScope s__law_is_order) := ⟨rfl, rfl, rfl, by decide +kernel, rfl, by decide +kernel, by decide +kernel⟩
abbrev s__law_is_ring : Stmt := top 35
theorem sc__law_is_ring : FnScope ["found", "many", "wishes", "turn", "k"] ["found", "many", "wishes"] (defScope s__law_is_ring) := ⟨rfl, rfl, rfl, by decide +kernel, rfl, by decide +kernel, by decide +kernel⟩
abbrev s__law_left : Stmt := top 36
theorem sc__law_left : FnScope ["many", "wishes", "left", "k", "rest", "some", "order"] ["many", "wishes"] (defScope s__law_left) := ⟨rfl, rfl, rfl, by decide +kernel, rfl, by decide +kernel, by decide +kernel⟩
abbrev own__law_left_c0 : List Str := ["one"]
abbrev cap__law_left_c0 : List (Str × Nat) := [("wishes", 1)]
abbrev lc__law_left_c0 : Scope := { kind := PySem.ScopeKind.function, names := [(PySem.Str.ofString ".0", PySem.NameKind.local), (PySem.Str.ofString "one", PySem.NameKind.local), (PySem.Str.ofString "wishes", PySem.NameKind.free)], isGenerator := false, isCoroutine := false, more := [] }
theorem nd__law_left_c0 : (own__law_left_c0 ++ cap__law_left_c0.map (·.1)).Nodup := by decide +kernel
theorem bs__law_left_c0 : BlkSc ["many", "wishes", "left", "k", "rest", "some", "order"] (defScope s__law_left) own__law_left_c0 cap__law_left_c0 lc__law_left_c0 := ⟨rfl, by decide +kernel, by decide +kernel, by decide +kernel, by decide +kernel⟩
abbrev own__law_left_c1 : List Str := ["one"]
abbrev cap__law_left_c1 : List (Str × Nat) := [("k", 3)]
abbrev lc__law_left_c1 : Scope := { kind := PySem.ScopeKind.function, names := [(PySem.Str.ofString ".0", PySem.NameKind.local), (PySem.Str.ofString "one", PySem.NameKind.local), (PySem.Str.ofString "k", PySem.NameKind.free)], isGenerator := false, isCoroutine := false, more := [] }
theorem nd__law_left_c1 : (own__law_left_c1 ++ cap__law_left_c1.map (·.1)).Nodup := by decide +kernel
theorem bs__law_left_c1 : BlkSc ["many", "wishes", "left", "k", "rest", "some", "order"] (defScope s__law_left) own__law_left_c1 cap__law_left_c1 lc__law_left_c1 := ⟨rfl, by decide +kernel, by decide +kernel, by decide +kernel, by decide +kernel⟩
abbrev s__law_right : Stmt := top 37
theorem sc__law_right : FnScope ["found", "many", "wishes", "last", "number", "one", "rest", "order"] ["found", "many", "wishes"] (defScope s__law_right) := ⟨rfl, rfl, rfl, by decide +kernel, rfl, by decide +kernel, by decide +kernel⟩
abbrev own__law_right_c0 : List Str := ["k"]
abbrev cap__law_right_c0 : List (Str × Nat) := [("wishes", 2), ("one", 5)]
abbrev lc__law_right_c0 : Scope := { kind := PySem.ScopeKind.function, names := [(PySem.Str.ofString ".0", PySem.NameKind.local), (PySem.Str.ofString "k", PySem.NameKind.local), (PySem.Str.ofString "one", PySem.NameKind.free), (PySem.Str.ofString "wishes", PySem.NameKind.free)], isGenerator := false, isCoroutine := false, more := [] }
theorem nd__law_right_c0 : (own__law_right_c0 ++ cap__law_right_c0.map (·.1)).Nodup := by decide +kernel
theorem bs__law_right_c0 : BlkSc ["found", "many", "wishes", "last", "number", "one", "rest", "order"] (defScope s__law_right) own__law_right_c0 cap__law_right_c0 lc__law_right_c0 := ⟨rfl, by decide +kernel, by decide +kernel, by decide +kernel, by decide +kernel⟩
abbrev own__law_right_c1 : List Str := ["k"]
abbrev cap__law_right_c1 : List (Str × Nat) := [("wishes", 2)]
abbrev lc__law_right_c1 : Scope := { kind := PySem.ScopeKind.function, names := [(PySem.Str.ofString ".0", PySem.NameKind.local), (PySem.Str.ofString "k", PySem.NameKind.local), (PySem.Str.ofString "wishes", PySem.NameKind.free)], isGenerator := false, isCoroutine := false, more := [] }
theorem nd__law_right_c1 : (own__law_right_c1 ++ cap__law_right_c1.map (·.1)).Nodup := by decide +kernel
theorem bs__law_right_c1 : BlkSc ["found", "many", "wishes", "last", "number", "one", "rest", "order"] (defScope s__law_right) own__law_right_c1 cap__law_right_c1 lc__law_right_c1 := ⟨rfl, by decide +kernel, by decide +kernel, by decide +kernel, by decide +kernel⟩
abbrev own__law_right_c2 : List Str := ["k"]
abbrev cap__law_right_c2 : List (Str × Nat) := [("wishes", 2)]
abbrev lc__law_right_c2 : Scope := { kind := PySem.ScopeKind.function, names := [(PySem.Str.ofString ".0", PySem.NameKind.local), (PySem.Str.ofString "k", PySem.NameKind.local), (PySem.Str.ofString "wishes", PySem.NameKind.free)], isGenerator := false, isCoroutine := false, more := [] }
theorem nd__law_right_c2 : (own__law_right_c2 ++ cap__law_right_c2.map (·.1)).Nodup := by decide +kernel
theorem bs__law_right_c2 : BlkSc ["found", "many", "wishes", "last", "number", "one", "rest", "order"] (defScope s__law_right) own__law_right_c2 cap__law_right_c2 lc__law_right_c2 := ⟨rfl, by decide +kernel, by decide +kernel, by decide +kernel, by decide +kernel⟩
abbrev s_law : Stmt := top 38
theorem sc_law : FnScope ["script", "drawn", "many", "wishes", "order", "turn", "handed", "found"] ["script"] (defScope s_law) := ⟨rfl, rfl, rfl, by decide +kernel, rfl, by decide +kernel, by decide +kernel⟩
abbrev own_law_c0 : List Str := ["wish"]
abbrev cap_law_c0 : List (Str × Nat) := []
abbrev lc_law_c0 : Scope := { kind := PySem.ScopeKind.function, names := [(PySem.Str.ofString ".0", PySem.NameKind.local), (PySem.Str.ofString "wish", PySem.NameKind.local), (PySem.Str.ofString "list", PySem.NameKind.globalImplicit)], isGenerator := false, isCoroutine := false, more := [] }
theorem nd_law_c0 : (own_law_c0 ++ cap_law_c0.map (·.1)).Nodup := by decide +kernel
theorem bs_law_c0 : BlkSc ["script", "drawn", "many", "wishes", "order", "turn", "handed", "found"] (defScope s_law) own_law_c0 cap_law_c0 lc_law_c0 := ⟨rfl, by decide +kernel, by decide +kernel, by decide +kernel, by decide +kernel⟩
structure Txt (K : PySem.W.Frag) (mg : Str → Option Value) : Prop where
  b_len : mg "len" = none
  b_range : mg "range" = none
  b_list : mg "list" = none
  b_reversed : mg "reversed" = none
  b_any : mg "any" = none
  b_sorted : mg "sorted" = none
  b_set : mg "set" = none
  b_isinstance : mg "isinstance" = none
  b_bool : mg "bool" = none
  b_int : mg "int" = none
  b_tuple : mg "tuple" = none
  g_Search : mg "Search" = some (.ref (aCls mg "Search"))
  cl_Search : Cls K (aCls mg "Search")
  n_Search_many : NoAttr K (aCls mg "Search") "many"
  n_Search_wanted : NoAttr K (aCls mg "Search") "wanted"
  n_Search_dead_ends : NoAttr K (aCls mg "Search") "dead_ends"
  d__law_cell_at : TDef K mg "_law_cell_at" s__law_cell_at ["script", "k"]
  d__law_set : TDef K mg "_law_set" s__law_set ["cell", "many"]
  d__law_order : TDef K mg "_law_order" s__law_order ["script", "at", "many"]
  d__law_wish : TDef K mg "_law_wish" s__law_wish ["cell", "many", "order"]
  d__law_wishes : TDef K mg "_law_wishes" s__law_wishes ["script", "at", "most", "few"]
  d_check_books : TDef K mg "check_books" s_check_books ["many", "books"]
  d_check_wishes : TDef K mg "check_wishes" s_check_wishes ["many", "wishes"]
  d_barring_onward : TDef K mg "barring_onward" s_barring_onward ["wishes", "one", "other"]
  d_barring : TDef K mg "barring" s_barring ["wishes", "one", "other"]
  d_all_turns : TDef K mg "all_turns" s_all_turns ["many"]
  d_barred_turns : TDef K mg "barred_turns" s_barred_turns ["many", "wishes"]
  d_paths_from : TDef K mg "paths_from" s_paths_from ["barred", "start"]
  d_bits_of : TDef K mg "bits_of" s_bits_of ["books"]
  d_has : TDef K mg "has" s_has ["bits", "book"]
  d_Search___init__ : TMk K (aCls mg "Search") "Search.__init__" s_Search___init__ ["self", "many", "wishes"]
  d_Search_next_books : TMeth K (aCls mg "Search") "next_books" "Search.next_books" s_Search_next_books ["self", "begun"]
  d_Search_completed : TMeth K (aCls mg "Search") "completed" "Search.completed" s_Search_completed ["self", "begun"]
  d_Search_completed_with : TMeth K (aCls mg "Search") "completed_with" "Search.completed_with" s_Search_completed_with ["self", "begun", "books"]
  d_first : TDef K mg "first" s_first ["many", "wishes"]
  d_ring_of_paths : TDef K mg "ring_of_paths" s_ring_of_paths ["one", "other"]
  d_ring_among : TDef K mg "ring_among" s_ring_among ["barred", "paths"]
  d_odd_ring : TDef K mg "odd_ring" s_odd_ring ["many", "wishes"]
  d_clash : TDef K mg "clash" s_clash ["many", "wishes"]
  d__law_split : TDef K mg "_law_split" s__law_split ["wishes", "a", "b", "c"]
  d__law_bar : TDef K mg "_law_bar" s__law_bar ["wishes", "one", "other"]
  d__law_whole : TDef K mg "_law_whole" s__law_whole ["found"]
  d__law_is_turn : TDef K mg "_law_is_turn" s__law_is_turn ["found", "many"]
  d__law_together : TDef K mg "_law_together" s__law_together ["order", "wish"]
  d__law_keeps : TDef K mg "_law_keeps" s__law_keeps ["order", "wishes"]
  d__law_is_order : TDef K mg "_law_is_order" s__law_is_order ["found", "many"]
  d__law_is_ring : TDef K mg "_law_is_ring" s__law_is_ring ["found", "many", "wishes"]
  d__law_left : TDef K mg "_law_left" s__law_left ["many", "wishes"]
  d__law_right : TDef K mg "_law_right" s__law_right ["found", "many", "wishes"]
end K08
namespace K08
open PySem L2
set_option maxRecDepth 100000
set_option maxHeartbeats 4000000
section
variable {P : Program} {w : World} {K : PySem.W.Frag} {mg : Str → Option Value} {base : Heap}
def spCell (K : PySem.W.Frag) : Sp := fun vs H Q _ => ∃ (a : Addr) (ns : List Int) (k : Int), vs = [.ref a, .int k] ∧ SqL K H a (ns.map V.int) ∧ 0 ≤ k ∧ ∀ z, Q (.int z) H
theorem ok__law_cell_at (T : Txt K mg) : Cal P w K mg base 1 "_law_cell_at" ["script", "k"] (spCell K) := by
  refine T.d__law_cell_at.ok sc__law_cell_at (fun vs H Q E h => ?_) (fun f cdv A outer s H vs Q E hr h => ?_)
  · obtain ⟨a, ns, k, rfl, _⟩ := h
    rfl
  · obtain ⟨a, ns, k, rfl, hS, h0, q⟩ := h
    refine ⟨_, (pss_cons (ps_if (pt_cmpR op_lt (pv 1) (pe_callB (k_len (K := K) rfl) rfl T.b_len PySem.boot_len (pa_cons (pv 0) pa_nil)) (nomark _)) (pss_one (ps_ret (pe_ix (k_ixL (K := K) rfl) (pv 0) (pv 1) (fun _ _ => rfl)))) pss_nil) (pss_one (ps_ret pe_int))), ?_⟩
    refine ⟨_, rfl, _, rfl, a, _, rfl, .inl hS, _, _, rfl, rfl, _, rfl, ?_⟩
    refine ite2 (fun hk => ?_) (fun hk => ?_)
    · have hk : k < (((ns.map V.int).length : Nat) : Int) := of_decide_eq_true hk
      rw [List.length_map] at hk
      have e : (ns.map V.int)[k.toNat]? = some (V.int (ns.getD k.toNat 0)) := by
        have : k.toNat < ns.length := by omega
        simp [this]
      refine ⟨_, rfl, _, rfl, a, _, k, V.int (ns.getD k.toNat 0), rfl, rfl, hS, ?_, q _⟩
      have e2 := atI_nat e
      rwa [Int.toNat_of_nonneg h0] at e2
    · exact q 0

def spSet : Sp := fun vs H Q _ => ∃ (cell : Int) (many : Nat), vs = [.int cell, .int many] ∧ many ≤ 8 ∧
  ∀ l (ns : List Int) H', H l = none → Same H H' → H' l = some (.lst (ns.map V.int)) → Sh.Good many ns → Q (.ref l) H'
theorem ok__law_set (T : Txt K mg) : Cal P w K mg base 1 "_law_set" ["cell", "many"] spSet := by
  refine T.d__law_set.ok sc__law_set (fun vs H Q E h => ?_) (fun f cdv A outer s H vs Q E hr h => ?_)
  · obtain ⟨c, m, rfl, _⟩ := h
    rfl
  · obtain ⟨c, m, rfl, hm, q⟩ := h
    refine ⟨_, (pss_cons (ps_set (i := 2) sc__law_set.nd rfl (Or.inl rfl) (pe_lst pa_nil)) (pss_cons (ps_for PassesOwn.never rfl (pi_range1 rfl T.b_range (pa_cons (pv 1) pa_nil)) (pg_name (i := 3) sc__law_set.nd rfl (Or.inl rfl)) (pss_cons (ps_if (pt_cmpR op_eq (pe_op op_mod (pv 0) pe_int) pe_int (nomark _)) (pss_one (ps_expr (pe_bm PySem.F.plainAttrs_list PySem.F.slot_list_append PySem.F.type_list_append mt_append (pv 2) (pa_cons (pv 3) pa_nil)))) pss_nil) (pss_one (ps_set (i := 0) sc__law_set.nd rfl (Or.inl rfl) (pe_op op_fdiv (pv 0) pe_int))))) (pss_one (ps_ret (pv 2))))), ?_⟩
    refine ⟨Nat.zero_le _, fun l hl => ?_⟩
    refine ⟨_, rfl, (m : Int), rfl, by omega, by omega, for_range (n := ((m : Int)).toNat) (fun i σ H' => ∃ (c' : Int) (bk : Option V) (ns : List Int), σ = [some (.int c'), some (.int m), some (.ref l), bk] ∧ Same H H' ∧ H' l = some (.lst (ns.map V.int)) ∧ (∀ b ∈ ns, 0 ≤ b ∧ b < (i : Int)) ∧ ns.length ≤ i)
      ⟨c, none, [], rfl, Same.new hl, upd_same, fun b hb => absurd hb (List.not_mem_nil), Nat.le_refl _⟩ ?_ ?_⟩
    · rintro i σ H' hi ⟨c', bk, ns, rfl, s1, hL, hb, hn⟩
      refine ⟨_, rfl, _, _, rfl, rfl, (by show (0 : Int) < 2; decide), rfl, _, rfl, ?_⟩
      refine ite2 (fun _ => ?_) (fun _ => ?_)
      · refine ⟨_, rfl, .inl ⟨rfl, _, SqL.of hL⟩, _, rfl, l, _, _, rfl, rfl, hL, ?_, ?_⟩
        · rw [List.length_map]
          exact small1000 (by omega)
        · refine ⟨_, rfl, _, _, rfl, rfl, ⟨by decide, by decide⟩, _, _, ns ++ [0 + (i : Int)], rfl, s1.put hl, ?_, fun b hb' => ?_, ?_⟩
          · rw [upd_same, List.map_append]
            rfl
          · rcases List.mem_append.mp hb' with z | z
            · have := hb b z
              omega
            · have z : b = 0 + (i : Int) := List.mem_singleton.mp z
              omega
          · rw [List.length_append]
            exact Nat.add_le_add_right hn 1
      · refine ⟨_, rfl, _, _, rfl, rfl, ⟨by decide, by decide⟩, _, _, ns, rfl, s1, hL, fun b z => ?_, by omega⟩
        have := hb b z
        omega
    · rintro σ H' ⟨c', bk, ns, rfl, s1, hL, hb, hn⟩
      refine ⟨_, rfl, q l ns H' hl s1 hL ⟨fun b z => ?_, by omega⟩⟩
      have := hb b z
      omega

def spOrder (K : PySem.W.Frag) : Sp := fun vs H Q _ => ∃ (a : Addr) (ns : List Int) (k : Int) (many : Nat), vs = [.ref a, .int k, .int many] ∧ SqL K H a (ns.map V.int) ∧ 0 ≤ k ∧ many ≤ 8 ∧
  ∀ l (os : List Int) H', H l = none → Same H H' → H' l = some (.lst (os.map V.int)) → os.Perm (Sh.rangeI many) → Q (.ref l) H'
theorem ok__law_order (T : Txt K mg) : Cal P w K mg base 2 "_law_order" ["script", "at", "many"] (spOrder K) := by
  have C__law_cell_at := ok__law_cell_at (P := P) (w := w) (base := base) T
  refine T.d__law_order.ok sc__law_order (fun vs H Q E h => ?_) (fun f cdv A outer s H vs Q E hr h => ?_)
  · obtain ⟨a, ns, k, m, rfl, _⟩ := h
    rfl
  · obtain ⟨a, ns, k, m, rfl, hS, h0, hm, q⟩ := h
    refine ⟨_, (pss_cons (ps_set (i := 3) sc__law_order.nd rfl (Or.inl rfl) (pe_listRange rfl T.b_list rfl T.b_range rfl (pv 2))) (pss_cons (ps_set (i := 4) sc__law_order.nd rfl (Or.inl rfl) (pe_lst pa_nil)) (pss_cons (ps_for PassesOwn.never rfl (pi_range1 rfl T.b_range (pa_cons (pv 2) pa_nil)) (pg_name (i := 5) sc__law_order.nd rfl (Or.inl rfl)) (pss_one (ps_expr (pe_bm PySem.F.plainAttrs_list PySem.F.slot_list_append PySem.F.type_list_append mt_append (pv 4) (pa_cons (pe_bm PySem.F.plainAttrs_list PySem.F.slot_list_pop PySem.F.type_list_pop mt_popAt (pv 3) (pa_cons (pe_op op_mod (pe_cal C__law_cell_at (hr.mono (by first | decide | omega)) rfl (pa_cons (pv 0) (pa_cons (pe_op op_add (pv 1) (pv 5)) pa_nil))) (pe_callB (k_len (K := K) rfl) rfl T.b_len PySem.boot_len (pa_cons (pv 3) pa_nil))) pa_nil)) pa_nil))))) (pss_one (ps_ret (pv 4)))))), ?_⟩
    refine ⟨_, rfl, m, rfl, by omega, fun ll hll => ?_⟩
    refine ⟨Nat.zero_le _, fun lo hlo => ?_⟩
    have nlo : lo ≠ ll := fun e => by rw [e, upd_same] at hlo; cases hlo
    have hlo' : H lo = none := by rw [upd_ne nlo] at hlo; exact hlo
    refine ⟨_, rfl, (m : Int), rfl, by omega, by omega, for_range (n := ((m : Int)).toNat) (fun i σ H' => ∃ (v : Option V) (os rs : List Int), σ = [some (.ref a), some (.int k), some (.int m), some (.ref ll), some (.ref lo), v] ∧ Same H H' ∧ H' ll = some (.lst (rs.map V.int)) ∧ H' lo = some (.lst (os.map V.int)) ∧
        (os ++ rs).Perm (Sh.rangeI m) ∧ os.length = i ∧ rs.length = m - i)
      ⟨none, [], Sh.rangeI m, rfl, (Same.new hll).put hlo', ?_, upd_same, List.Perm.refl _, rfl, Sh.rangeI_len m⟩ ?_ ?_⟩
    · rw [upd_ne (Ne.symm nlo), upd_same]
      unfold Sh.rangeI
      rw [List.map_map]
      rfl
    · rintro i σ H' hi ⟨v, os, rs, rfl, s1, hL, hO, hp, h1, h2⟩
      have hi : i < m := by simpa using hi
      have hrl : 0 < rs.length := by omega
      refine ⟨_, rfl, .inl ⟨rfl, _, SqL.of hO⟩, _, rfl, .inl ⟨rfl, _, SqL.of hL⟩, ?_⟩
      refine ⟨_, rfl, _, rfl, _, rfl, _, _, rfl, rfl, a, ns, _, rfl, s1.seq hS, by omega, fun z => ?_⟩
      refine ⟨_, rfl, ll, _, rfl, .inl (SqL.of hL), _, _, rfl, rfl, ?_, ?_⟩
      · show (0 : Int) < (((rs.map V.int).length : Nat) : Int)
        rw [List.length_map]
        omega
      · have hz0 : 0 ≤ z % (((rs.map V.int).length : Nat) : Int) := Int.emod_nonneg _ (by rw [List.length_map]; omega)
        have hz1 : z % (((rs.map V.int).length : Nat) : Int) < (((rs.map V.int).length : Nat) : Int) := Int.emod_lt_of_pos _ (by rw [List.length_map]; omega)
        have hml : (rs.map V.int).length = rs.length := List.length_map ..
        obtain ⟨j, hj, ej⟩ : ∃ j : Nat, j < rs.length ∧ z % (((rs.map V.int).length : Nat) : Int) = (j : Int) := ⟨(z % (((rs.map V.int).length : Nat) : Int)).toNat, by omega, by omega⟩
        refine ⟨ll, rs.map V.int, z % (((rs.map V.int).length : Nat) : Int), j, V.int rs[j], rfl, rfl, hL, by omega, by omega, ?_, by simp [hj], ?_⟩
        · rw [ej, List.length_map]
          exact (ixN_seq (n := rs.length) (i := (j : Int)) (j := j) (by unfold ixN; rw [if_pos (by omega), if_pos (by omega)]; simp)).1
        · refine ⟨lo, _, _, rfl, rfl, by rw [upd_ne nlo]; exact hO, by rw [List.length_map]; exact small1000 (by omega), ?_⟩
          refine ⟨_, os ++ [rs[j]], rs.eraseIdx j, rfl, (s1.put hll).put hlo', ?_, ?_, ?_, ?_, ?_⟩
          · rw [upd_ne (Ne.symm nlo), upd_same, Sh.map_erase]
          · rw [upd_same, List.map_append]
            rfl
          · refine List.Perm.trans ?_ hp
            rw [List.append_assoc]
            exact List.Perm.append_left os (Sh.erase_perm hj)
          · rw [List.length_append, h1]
            rfl
          · rw [List.length_eraseIdx_of_lt hj]
            omega
    · rintro σ H' ⟨v, os, rs, rfl, s1, hL, hO, hp, h1, h2⟩
      have e : rs = [] := List.length_eq_zero_iff.mp (by rw [h2]; simp)
      subst e
      rw [List.append_nil] at hp
      exact ⟨_, rfl, q lo os H' hlo' s1 hO hp⟩

def spWish (K : PySem.W.Frag) : Sp := fun vs H Q _ => ∃ (cell : Int) (many : Nat) (o : Addr) (os : List Int), vs = [.int cell, .int many, .ref o] ∧ 1 ≤ many ∧ many ≤ 8 ∧ SqL K H o (os.map V.int) ∧ os.Perm (Sh.rangeI many) ∧
  ∀ l (ns : List Int) H', H l = none → Same H H' → H' l = some (.lst (ns.map V.int)) → Sh.Good many ns → Q (.ref l) H'
theorem ok__law_wish (T : Txt K mg) : Cal P w K mg base 1 "_law_wish" ["cell", "many", "order"] (spWish K) := by
  refine T.d__law_wish.ok sc__law_wish (fun vs H Q E h => ?_) (fun f cdv A outer s H vs Q E hr h => ?_)
  · obtain ⟨c, m, o, os, rfl, _⟩ := h
    rfl
  · obtain ⟨c, m, o, os, rfl, h1, h8, hO, hp, q⟩ := h
    refine ⟨_, (pss_cons (ps_set (i := 3) sc__law_wish.nd rfl (Or.inl rfl) (pe_op op_mod (pv 0) (pv 1))) (pss_cons (ps_set (i := 4) sc__law_wish.nd rfl (Or.inl rfl) (pe_op op_add pe_int (pe_op op_mod (pe_op op_fdiv (pv 0) (pv 1)) (pe_op op_sub (pv 1) (pv 3))))) (pss_cons (ps_set (i := 5) sc__law_wish.nd rfl (Or.inl rfl) (pe_slice (k_slL (K := K) rfl) (pv 2) (po_some (pv 3)) (po_some (pe_op op_add (pv 3) (pv 4))))) (pss_cons (ps_if (pt_cmpR op_eq (pe_op op_mod (pe_op op_fdiv (pv 0) pe_int) pe_int) pe_int (nomark _)) (pss_one (ps_set (i := 5) sc__law_wish.nd rfl (Or.inl rfl) (pe_op op_cat (pe_listRev rfl T.b_list rfl T.b_reversed rfl (pv 5)) (pe_slice (k_slL (K := K) rfl) (pv 5) po_none (po_some pe_int))))) pss_nil) (pss_one (ps_ret (pv 5))))))), ?_⟩
    have m0 : (0 : Int) < m := by omega
    have l0 : 0 ≤ c % (m : Int) := Int.emod_nonneg _ (by omega)
    have l1 : c % (m : Int) < m := Int.emod_lt_of_pos _ m0
    refine ⟨_, rfl, _, rfl, _, _, rfl, rfl, m0, ?_⟩
    refine ⟨_, rfl, _, rfl, _, _, rfl, rfl, ⟨m0, by omega⟩, _, rfl, _, rfl, _, _, rfl, rfl, _, _, rfl, rfl, (by show (0 : Int) < (m : Int) - c % (m : Int); omega), _, _, rfl, rfl, ?_⟩
    refine ⟨_, rfl, _, rfl, _, rfl, _, rfl, _, rfl, _, _, rfl, rfl, _, rfl, o, _, rfl, hO, fun p hpn => ?_⟩
    obtain ⟨cs, e1, e2, e3⟩ := cut_ints os (some (c % (m : Int))) (some (c % (m : Int) + (1 + c / (m : Int) % ((m : Int) - c % (m : Int)))))
    rw [e1]
    have len : os.length = m := by rw [hp.length_eq]; exact Sh.rangeI_len m
    have good : ∀ b ∈ os, 0 ≤ b ∧ b < (m : Int) := fun b hb => Sh.mem_rangeI.mp (hp.mem_iff.mp hb)
    have sP : Same H (upd H p (.lst (cs.map V.int))) := Same.new hpn
    refine ⟨_, rfl, _, _, rfl, rfl, ⟨by decide, by decide⟩, _, _, rfl, rfl, (by show (0 : Int) < 4; decide), rfl, _, rfl, ?_⟩
    refine ite2 (fun _ => ?_) (fun _ => ?_)
    · refine ⟨_, rfl, p, _, rfl, SqL.of upd_same, fun l1 hl1 => ?_⟩
      have n1 : p ≠ l1 := fun e => by rw [← e, upd_same] at hl1; cases hl1
      refine ⟨_, rfl, _, rfl, p, _, rfl, SqL.of (by rw [upd_ne n1]; exact upd_same), fun l2 hl2 => ?_⟩
      have n2 : l1 ≠ l2 := fun e => by rw [← e, upd_same] at hl2; cases hl2
      obtain ⟨ds, d1, d2, d3⟩ := cut_ints1 cs
      refine ⟨l1, l2, _, _, rfl, rfl, by rw [upd_ne n2]; exact upd_same, upd_same, ?_, fun l3 hl3 => ?_⟩
      · rw [d1, List.length_reverse, List.length_map, List.length_map]
        exact Nat.le_of_lt (small1000 (by omega))
      · have s3 : Same H (upd (upd (upd (upd H p (.lst (cs.map V.int))) l1 (.lst (cs.map V.int).reverse)) l2 (.lst (cutV (cs.map V.int) none (some 1)))) l3 (.lst ((cs.map V.int).reverse ++ cutV (cs.map V.int) none (some 1)))) :=
          ((sP.trans (Same.new hl1)).trans (Same.new hl2)).trans (Same.new hl3)
        refine ⟨_, rfl, q l3 (cs.reverse ++ ds) _ (((sP.trans (Same.new hl1)).trans (Same.new hl2)).free hl3) s3 ?_ ⟨fun b hb => ?_, ?_⟩⟩
        · rw [upd_same, d1, List.map_append, List.map_reverse]
        · rcases List.mem_append.mp hb with z | z
          · exact good b (e2 b (List.mem_reverse.mp z))
          · exact good b (e2 b (d2 b z))
        · rw [List.length_append, List.length_reverse]
          omega
    · refine ⟨_, rfl, q p cs _ hpn sP upd_same ⟨fun b hb => good b (e2 b hb), ?_⟩⟩
      omega

def spWishes (K : PySem.W.Frag) : Sp := fun vs H Q _ => ∃ (a : Addr) (ns : List Int) (k : Int) (most few : Nat), vs = [.ref a, .int k, .int most, .int few] ∧ SqL K H a (ns.map V.int) ∧ 0 ≤ k ∧ 1 ≤ most ∧ most ≤ 8 ∧ few ≤ 12 ∧
  ∀ t lw (many : Nat) (ws : List (List Int)) H', H t = none → H lw = none → Same H H' → H' t = some (.tup [.int many, .ref lw]) → WL H' lw ws → 1 ≤ many → many ≤ most → ws.length ≤ few → (∀ w ∈ ws, Sh.Good many w) → Q (.ref t) H'
theorem ok__law_wishes (T : Txt K mg) : Cal P w K mg base 3 "_law_wishes" ["script", "at", "most", "few"] (spWishes K) := by
  have C__law_cell_at := ok__law_cell_at (P := P) (w := w) (base := base) T
  have C__law_order := ok__law_order (P := P) (w := w) (base := base) T
  have C__law_wish := ok__law_wish (P := P) (w := w) (base := base) T
  have C__law_set := ok__law_set (P := P) (w := w) (base := base) T
  refine T.d__law_wishes.ok sc__law_wishes (fun vs H Q E h => ?_) (fun f cdv A outer s H vs Q E hr h => ?_)
  · obtain ⟨a, ns, k, m, n, rfl, _⟩ := h
    rfl
  · obtain ⟨a, ns, k, most, few, rfl, hS, h0, hm1, hm8, hf, q⟩ := h
    refine ⟨_, (pss_cons (ps_set (i := 4) sc__law_wishes.nd rfl (Or.inl rfl) (pe_cal C__law_cell_at (hr.mono (by first | decide | omega)) rfl (pa_cons (pv 0) (pa_cons (pv 1) pa_nil)))) (pss_cons (ps_set (i := 5) sc__law_wishes.nd rfl (Or.inl rfl) (pe_op op_add pe_int (pe_op op_mod (pe_op op_fdiv (pv 4) pe_int) (pv 2)))) (pss_cons (ps_set (i := 6) sc__law_wishes.nd rfl (Or.inl rfl) (pe_op op_mod (pe_op op_fdiv (pv 4) pe_int) (pe_op op_add (pv 3) pe_int))) (pss_cons (ps_set (i := 7) sc__law_wishes.nd rfl (Or.inl rfl) (pe_cal C__law_order (hr.mono (by first | decide | omega)) rfl (pa_cons (pv 0) (pa_cons (pe_op op_add (pv 1) pe_int) (pa_cons (pv 5) pa_nil))))) (pss_cons (ps_set (i := 8) sc__law_wishes.nd rfl (Or.inl rfl) (pe_lst pa_nil)) (pss_cons (ps_for PassesOwn.never rfl (pi_range1 rfl T.b_range (pa_cons (pv 6) pa_nil)) (pg_name (i := 9) sc__law_wishes.nd rfl (Or.inl rfl)) (pss_cons (ps_set (i := 10) sc__law_wishes.nd rfl (Or.inl rfl) (pe_cal C__law_cell_at (hr.mono (by first | decide | omega)) rfl (pa_cons (pv 0) (pa_cons (pe_op op_add (pe_op op_add (pv 1) pe_int) (pv 9)) pa_nil)))) (pss_one (ps_if (pt_cmpR op_eq (pe_op op_mod (pv 4) pe_int) pe_int (nomark _)) (pss_one (ps_expr (pe_bm PySem.F.plainAttrs_list PySem.F.slot_list_append PySem.F.type_list_append mt_append (pv 8) (pa_cons (pe_cal C__law_set (hr.mono (by first | decide | omega)) rfl (pa_cons (pv 10) (pa_cons (pv 5) pa_nil))) pa_nil)))) (pss_one (ps_expr (pe_bm PySem.F.plainAttrs_list PySem.F.slot_list_append PySem.F.type_list_append mt_append (pv 8) (pa_cons (pe_cal C__law_wish (hr.mono (by first | decide | omega)) rfl (pa_cons (pv 10) (pa_cons (pv 5) (pa_cons (pv 7) pa_nil)))) pa_nil)))))))) (pss_cons (ps_if (PW.pt (pw_and (pt_cmpR op_gt (pe_op op_mod (pv 4) pe_int) pe_int (nomark _)) (pw_and1 (pt_cmpR op_gt (pv 6) pe_int (nomark _))))) (pss_cons (ps_set (i := 11) sc__law_wishes.nd rfl (Or.inl rfl) (pe_cal C__law_cell_at (hr.mono (by first | decide | omega)) rfl (pa_cons (pv 0) (pa_cons (pe_op op_add (pv 1) pe_int) pa_nil)))) (pss_one (ps_asg (pe_cal C__law_set (hr.mono (by first | decide | omega)) rfl (pa_cons (pe_op op_fdiv (pv 11) (pv 6)) (pa_cons (pv 5) pa_nil))) (pg_sub (pv 8) (pe_op op_mod (pv 11) (pv 6)) set_list)))) pss_nil) (pss_one (ps_ret (pe_tup (pa_cons (pv 5) (pa_cons (pv 8) pa_nil)))))))))))), ?_⟩
    refine ⟨_, rfl, _, rfl, a, ns, k, rfl, hS, h0, fun c => ?_⟩
    have m1 : (0 : Int) < most := by omega
    obtain ⟨many, hmany, em⟩ : ∃ many : Nat, many ≤ most ∧ 1 + c / 4 % (most : Int) = (many : Int) := by
      have q1 : 0 ≤ c / 4 % (most : Int) := Int.emod_nonneg _ (by omega)
      have q2 : c / 4 % (most : Int) < most := Int.emod_lt_of_pos _ m1
      exact ⟨(1 + c / 4 % (most : Int)).toNat, by omega, by omega⟩
    have hpos : 1 ≤ many := by
      have q1 : 0 ≤ c / 4 % (most : Int) := Int.emod_nonneg _ (by omega)
      omega
    obtain ⟨cnt, hcnt, ec⟩ : ∃ cnt : Nat, cnt ≤ few ∧ c / 40 % ((few : Int) + 1) = (cnt : Int) := by
      have q1 : 0 ≤ c / 40 % ((few : Int) + 1) := Int.emod_nonneg _ (by omega)
      have q2 : c / 40 % ((few : Int) + 1) < (few : Int) + 1 := Int.emod_lt_of_pos _ (by omega)
      exact ⟨(c / 40 % ((few : Int) + 1)).toNat, by omega, by omega⟩
    refine ⟨_, rfl, _, _, rfl, rfl, ⟨by decide, by decide⟩, _, rfl, _, _, rfl, rfl, m1, _, _, rfl, rfl, ?_⟩
    dsimp only
    rw [em]
    refine ⟨_, rfl, _, _, rfl, rfl, ⟨by decide, by decide⟩, _, rfl, _, _, rfl, rfl, _, _, rfl, rfl, (by show (0 : Int) < (few : Int) + 1; omega), ?_⟩
    dsimp only
    rw [ec]
    refine ⟨_, rfl, _, rfl, _, _, rfl, rfl, _, rfl, a, ns, _, many, rfl, hS, by omega, by omega, fun lo os H1 hlo s1 hO hp => ?_⟩
    refine ⟨Nat.zero_le _, fun lw hlw => ?_⟩
    have hlwH : H lw = none := s1.free hlw
    refine ⟨_, rfl, (cnt : Int), rfl, by omega, by omega, for_range (n := ((cnt : Int)).toNat) (fun i σ H' => ∃ (v1 v2 : Option V) (ws : List (List Int)), σ = [some (.ref a), some (.int k), some (.int most), some (.int few), some (.int c), some (.int many), some (.int cnt), some (.ref lo), some (.ref lw), v1, v2, none] ∧
        Same H1 H' ∧ WLx H' lw ws ∧ ws.length = i ∧ ∀ w ∈ ws, Sh.Good many w)
      ⟨none, none, [], rfl, Same.new hlw, ⟨[], upd_same, .nil⟩, rfl, fun w hw => absurd hw (List.not_mem_nil)⟩ ?_ ?_⟩
    · rintro i σ H' hi ⟨v1, v2, ws, rfl, s2, ⟨as, hW, hP⟩, hl, hg⟩
      have hi : i < cnt := by simpa using hi
      have add : ∀ (l : Addr) (ns' : List Int) (H'' : Hp) (v1 v2 : Option V), H' l = none → Same H' H'' → H'' l = some (.lst (ns'.map V.int)) → Sh.Good many ns' →
          H'' lw = some (.lst (as.map V.ref)) ∧ (as.map V.ref).length < sizeLine ∧ ∃ (u1 u2 : Option V) (ws' : List (List Int)), [some (.ref a), some (.int k), some (.int most), some (.int few), some (.int c), some (.int many), some (.int cnt), some (.ref lo), some (.ref lw), v1, v2, none] = [some (.ref a), some (.int k), some (.int most), some (.int few), some (.int c), some (.int many), some (.int cnt), some (.ref lo), some (.ref lw), u1, u2, none] ∧
            Same H1 (upd H'' lw (.lst (as.map V.ref ++ [.ref l]))) ∧ WLx (upd H'' lw (.lst (as.map V.ref ++ [.ref l]))) lw ws' ∧ ws'.length = i + 1 ∧ ∀ w ∈ ws', Sh.Good many w := fun l ns' H'' v1 v2 fl s3 hl' g' => by
        have nl : l ≠ lw := fun e => by rw [e, hW] at fl; cases fl
        refine ⟨s3 _ _ hW, ?_, v1, v2, ws ++ [ns'], rfl, (s2.trans s3).put hlw, ⟨as ++ [l], ?_, ?_⟩, ?_, fun w hw => ?_⟩
        · rw [List.length_map, Paired.length hP, hl]
          exact small1000 (by omega)
        · rw [upd_same, List.map_append]
          rfl
        · refine Paired.snoc (Paired.mapP hP fun b w ⟨n1, e⟩ => ⟨n1, ?_⟩) ⟨nl, ?_⟩
          · rw [upd_ne n1]
            exact s3 _ _ e
          · rw [upd_ne nl]
            exact hl'
        · rw [List.length_append, hl]
          rfl
        · rcases List.mem_append.mp hw with z | z
          · exact hg w z
          · rw [List.mem_singleton.mp z]
            exact g'
      refine ⟨_, rfl, _, rfl, _, _, rfl, rfl, _, rfl, _, _, rfl, rfl, a, ns, _, rfl, (s1.trans s2).seq hS, by omega, fun one => ?_⟩
      refine ⟨_, rfl, _, _, rfl, rfl, (by show (0 : Int) < 4; decide), rfl, _, rfl, ?_⟩
      refine ite2 (fun _ => ?_) (fun _ => ?_)
      · refine ⟨_, rfl, .inl ⟨rfl, _, SqL.of hW⟩, _, rfl, _, rfl, one, many, rfl, by omega, fun l ns' H'' fl s3 hl' g' => ?_⟩
        obtain ⟨a1, a2, a3⟩ := add l ns' H'' _ _ fl s3 hl' g'
        exact ⟨lw, _, _, rfl, rfl, a1, a2, a3⟩
      · refine ⟨_, rfl, .inl ⟨rfl, _, SqL.of hW⟩, _, rfl, _, rfl, _, rfl, one, many, lo, os, rfl, hpos, by omega, SqL.of (s2 _ _ hO), hp, fun l ns' H'' fl s3 hl' g' => ?_⟩
        obtain ⟨a1, a2, a3⟩ := add l ns' H'' _ _ fl s3 hl' g'
        exact ⟨lw, _, _, rfl, rfl, a1, a2, a3⟩
    · rintro σ H' ⟨v1, v2, ws, rfl, s2, ⟨as, hW, hP⟩, hl, hg⟩
      have hl : ws.length = cnt := by simpa using hl
      refine ⟨_, rfl, _, _, rfl, rfl, (by show (0 : Int) < 4; decide), _, _, rfl, rfl, _, rfl, ?_⟩
      have fin : ∀ (H'' : Hp) (as' : List Addr) (ws' : List (List Int)) (σ' : St), σ'[5]? = some (some (.int many)) → σ'[8]? = some (some (.ref lw)) → Same H1 H'' → H'' lw = some (.lst (as'.map V.ref)) → Paired (fun b w => b ≠ lw ∧ H'' b = some (.lst (w.map V.int))) as' ws' → ws'.length = cnt → (∀ w ∈ ws', Sh.Good many w) →
          tRet (tTup (tCons (tVar 5) (tCons (tVar 8) tNil))) { nx := fun _ H' => Q .non H', rt := Q } σ' H'' := fun H'' as' ws' σ' e5 e8 s3 hW' hP' hl' hg' => by
        refine ⟨_, e5, _, e8, (by show 2 ≤ sizeLine; decide), fun t ht => ?_⟩
        have nt : lw ≠ t := fun e => by rw [← e, hW'] at ht; cases ht
        refine q t lw many ws' _ ((s1.trans s3).free ht) hlwH ((s1.trans s3).trans (Same.new ht)) upd_same ⟨as', by rw [upd_ne nt]; exact hW', Paired.mapP hP' fun b w ⟨_, e⟩ => ?_⟩ hpos hmany (by omega) hg'
        have nb : b ≠ t := fun e' => by rw [e', ht] at e; cases e
        rw [upd_ne nb]
        exact e
      refine ite2 (fun _ => ?_) (fun _ => ?_)
      · refine ⟨_, rfl, _, _, rfl, rfl, _, rfl, ?_⟩
        refine ite2 (fun hc => ?_) (fun _ => ?_)
        · have hc : (0 : Int) < (cnt : Int) := of_decide_eq_true hc
          refine ⟨_, rfl, _, rfl, _, _, rfl, rfl, a, ns, _, rfl, (s1.trans s2).seq hS, by omega, fun oth => ?_⟩
          refine ⟨_, rfl, _, rfl, _, _, rfl, rfl, ⟨hc, by omega⟩, _, rfl, _, many, rfl, by omega, fun l ns' H'' fl s3 hl' g' => ?_⟩
          have nl : l ≠ lw := fun e => by rw [e, hW] at fl; cases fl
          have z0 : 0 ≤ oth % (cnt : Int) := Int.emod_nonneg _ (by omega)
          have z1 : oth % (cnt : Int) < cnt := Int.emod_lt_of_pos _ hc
          have el : (as.map V.ref).length = cnt := by rw [List.length_map, Paired.length hP, hl]
          refine ⟨_, rfl, _, rfl, _, rfl, _, _, rfl, rfl, hc, lw, as.map V.ref, _, (oth % (cnt : Int)).toNat, rfl, rfl, s3 _ _ hW, ?_, ?_⟩
          · rw [el]
            unfold ixN
            rw [if_pos z0, if_pos z1]
          · refine fin _ (as.set (oth % (cnt : Int)).toNat l) (ws.set (oth % (cnt : Int)).toNat ns') _ rfl rfl ((s2.trans s3).put hlw) ?_ ?_ ?_ ?_
            · rw [upd_same, List.map_set]
            · refine paired_set (F := fun b w => b ≠ lw ∧ (upd H'' lw (HO.lst ((as.map V.ref).set (oth % (cnt : Int)).toNat (V.ref l)))) b = some (.lst (w.map V.int))) ⟨nl, ?_⟩ (Paired.mapP hP fun b w ⟨n1, e⟩ => ⟨n1, ?_⟩)
              · rw [upd_ne nl]
                exact hl'
              · rw [upd_ne n1]
                exact s3 _ _ e
            · rw [List.length_set]
              exact hl
            · intro w hw
              rcases List.mem_or_eq_of_mem_set hw with z | z
              · exact hg w z
              · rw [z]
                exact g'
        · exact fin H' as ws _ rfl rfl s2 hW hP hl hg
      · exact fin H' as ws _ rfl rfl s2 hW hP hl hg

end
end K08
namespace K08
open PySem L2
set_option maxRecDepth 100000
set_option maxHeartbeats 4000000
section
variable {P : Program} {w : World} {K : PySem.W.Frag} {mg : Str → Option Value} {base : Heap}
def spBooks (K : PySem.W.Frag) : Sp := fun vs H Q _ => ∃ (many : Nat) (b : Addr) (ns : List Int), vs = [.int many, .ref b] ∧ (SqL K H b (ns.map V.int) ∨ SqT K H b (ns.map V.int)) ∧ Sh.Good many ns ∧ Q .non H
theorem ok_check_books (T : Txt K mg) : Cal P w K mg base 1 "check_books" ["many", "books"] (spBooks K) := by
  refine T.d_check_books.ok sc_check_books (fun vs H Q E h => ?_) (fun f cdv A outer s H vs Q E hr h => ?_)
  · obtain ⟨m, b, ns, rfl, _⟩ := h
    rfl
  · obtain ⟨m, b, ns, rfl, hS, hg, q⟩ := h
    refine ⟨_, (pss_one (ps_for PassesOwn.never rfl (k_seq (K := K) rfl (pv 1)) (pg_name (i := 2) sc_check_books.nd rfl (Or.inl rfl)) (pss_one (ps_if (pt_not (pt_chain op_le op_lt pe_int (pv 2) (pv 0))) (pss_one ps_never) pss_nil)))), ?_⟩
    have turn : ∀ (i : Nat) (x : V) (σ : St) (H' : Hp) (N : St → Hp → Prop) (D : Ends), (ns.map V.int)[i]? = some x → (∃ v, σ = [some (.int m), some (.ref b), v] ∧ H' = H) → (∀ σ', (∃ v, σ' = [some (.int m), some (.ref b), v] ∧ H' = H) → N σ' H') →
        gName 2 x σ H' fun σ2 H2 => tIfS (tNot (tTest (tChain (rI0 fun i j => .bl (decide (i ≤ j))) (rI0 fun i j => .bl (decide (i < j))) (tC (.int 0)) (tVar 2) (tVar 0)))) tNever tNext { D with nx := N, ct := N, bk := D.nx } σ2 H2 := by
      rintro i x σ H' N D hi ⟨v, rfl, rfl⟩ hN
      rw [List.getElem?_map] at hi
      cases e : ns[i]? with
      | none => rw [e] at hi; cases hi
      | some z =>
        rw [e] at hi
        obtain rfl : V.int z = x := Option.some.inj hi
        have hz := hg.1 z (List.mem_of_getElem? e)
        refine ⟨_, rfl, _, _, rfl, rfl, _, rfl, ?_⟩
        rw [if_pos (decide_eq_true hz.1)]
        refine ⟨_, rfl, _, _, rfl, rfl, _, rfl, ?_⟩
        rw [decide_eq_true hz.2]
        exact hN _ ⟨_, rfl, rfl⟩
    rcases hS with hS | hS
    · refine ⟨_, rfl, .inl ⟨b, rfl, ⟨_, hS⟩, for_list (K := K) (a := b) (xs := ns.map V.int) (fun i σ H' => ∃ v, σ = [some (.int m), some (.ref b), v] ∧ H' = H) ⟨none, rfl, rfl⟩ (fun i σ H' _ ⟨_, _, e⟩ => by rw [e]; exact hS) (fun i x σ H' hi p => turn i x σ H' _ _ hi p fun σ' z => z) ?_⟩⟩
      rintro σ H' ⟨v, rfl, rfl⟩
      exact q
    · refine ⟨_, rfl, .inr ⟨b, rfl, ⟨_, hS⟩, for_tup (K := K) (a := b) (xs := ns.map V.int) (fun i σ H' => ∃ v, σ = [some (.int m), some (.ref b), v] ∧ H' = H) ⟨none, rfl, rfl⟩ (fun i σ H' _ ⟨_, _, e⟩ => by rw [e]; exact hS) (fun i x σ H' hi p => turn i x σ H' _ _ hi p fun σ' z => z) ?_⟩⟩
      rintro σ H' ⟨v, rfl, rfl⟩
      exact q

def spCWishes (K : PySem.W.Frag) : Sp := fun vs H Q _ => ∃ (many : Nat) (lw : Addr) (ws : List (List Int)), vs = [.int many, .ref lw] ∧ WL H lw ws ∧ (∀ w ∈ ws, Sh.Good many w) ∧ Q .non H
theorem ok_check_wishes (T : Txt K mg) : Cal P w K mg base 2 "check_wishes" ["many", "wishes"] (spCWishes K) := by
  have C_check_books := ok_check_books (P := P) (w := w) (base := base) T
  refine T.d_check_wishes.ok sc_check_wishes (fun vs H Q E h => ?_) (fun f cdv A outer s H vs Q E hr h => ?_)
  · obtain ⟨m, b, ns, rfl, _⟩ := h
    rfl
  · obtain ⟨m, lw, ws, rfl, ⟨as, hW, hP⟩, hg, q⟩ := h
    refine ⟨_, (pss_one (ps_for PassesOwn.never rfl (k_list (K := K) rfl (pv 1)) (pg_name (i := 2) sc_check_wishes.nd rfl (Or.inl rfl)) (pss_one (ps_expr (pe_cal C_check_books (hr.mono (by first | decide | omega)) rfl (pa_cons (pv 0) (pa_cons (pv 2) pa_nil))))))), ?_⟩
    refine ⟨_, rfl, lw, rfl, ⟨_, SqL.of hW⟩, for_list (K := K) (a := lw) (xs := as.map V.ref) (fun i σ H' => ∃ v, σ = [some (.int m), some (.ref lw), v] ∧ H' = H) ⟨none, rfl, rfl⟩ (fun i σ H' _ ⟨_, _, e⟩ => by rw [e]; exact SqL.of hW) ?_ ?_⟩
    · rintro i x σ H' hi ⟨v, rfl, rfl⟩
      rw [List.getElem?_map] at hi
      cases e : as[i]? with
      | none => rw [e] at hi; cases hi
      | some b =>
        rw [e] at hi
        obtain rfl : V.ref b = x := Option.some.inj hi
        obtain ⟨w', h1, h2⟩ := paired_get1 hP e
        exact ⟨_, rfl, _, rfl, m, b, w', rfl, .inl (SqL.of h2), hg w' (List.mem_of_getElem? h1), _, rfl, rfl⟩
    · rintro σ H' ⟨v, rfl, rfl⟩
      exact q


end
end K08
namespace K08
open PySem L2
set_option maxRecDepth 100000
set_option maxHeartbeats 4000000
section
variable {P : Program} {w : World} {K : PySem.W.Frag} {mg : Str → Option Value} {base : Heap}
def TurnAt (K : PySem.W.Frag) (H : Hp) (t : Addr) (p : Int × Int) : Prop := SqT K H t [.int p.1, .int p.2]
def spOnward (K : PySem.W.Frag) : Sp := fun vs H Q _ => ∃ (lw t u : Addr) (ws : List (List Int)) (p r : Int × Int), vs = [.ref lw, .ref t, .ref u] ∧ WL H lw ws ∧ ws.length ≤ 100 ∧ TurnAt K H t p ∧ TurnAt K H u r ∧ ∀ H', Same H H' → Q (.bl (Sh.onw ws p r)) H'
theorem ok_barring_onward (T : Txt K mg) : Cal P w K mg base 1 "barring_onward" ["wishes", "one", "other"] (spOnward K) := by
  refine T.d_barring_onward.ok sc_barring_onward (fun vs H Q E h => ?_) (fun f cdv A outer s H vs Q E hr h => ?_)
  · obtain ⟨lw, t, u, ws, p, r, rfl, _⟩ := h
    rfl
  · obtain ⟨lw, t, u, ws, p, r, rfl, ⟨as, hA, hP⟩, hlen, hT, hU, q⟩ := h
    refine ⟨_, (pss_cons (ps_if (pt_cmpR op_ne (pe_ix (k_ixT (K := K) rfl) (pv 1) pe_int (fun _ _ => rfl)) (pe_ix (k_ixT (K := K) rfl) (pv 2) pe_int (fun _ _ => rfl)) (nomark _)) (pss_one (ps_ret pe_bl)) pss_nil) (pss_cons (ps_if (pt_cmpR op_eq (pe_ix (k_ixT (K := K) rfl) (pv 1) pe_int (fun _ _ => rfl)) (pe_ix (k_ixT (K := K) rfl) (pv 2) pe_int (fun _ _ => rfl)) (nomark _)) (pss_one (ps_ret pe_bl)) pss_nil) (pss_one (ps_ret (pe_callB (k_any (K := K) rfl rfl) rfl T.b_any PyProof.Rows.boot_any (pa_cons (pe_comp (own := own_barring_onward_c0) (cap := cap_barring_onward_c0) rfl rfl bs_barring_onward_c0 (k_list (K := K) rfl (pv 0)) (fun _ _ _ _ => (pg_name (i := 0) nd_barring_onward_c0 rfl (Or.inl rfl) (Or.inr rfl))) (fun _ _ _ _ => pts_nil) (fun _ _ _ _ => (pe_and (pe_cmpR (k_in (K := K) rfl) (pe_ix (k_ixT (K := K) rfl) (pv 1) pe_int (fun _ _ => rfl)) (pv 0) rfl) (pe_and (pe_cmpR (k_in (K := K) rfl) (pe_ix (k_ixT (K := K) rfl) (pv 2) pe_int (fun _ _ => rfl)) (pv 0) rfl) (pe_one (pe_cmpR (k_notIn (K := K) rfl) (pe_ix (k_ixT (K := K) rfl) (pv 1) pe_int (fun _ _ => rfl)) (pv 0) rfl)))))) pa_nil)))))), ?_⟩
    have q0 := q H (Same.refl _)
    unfold Sh.onw at q q0
    refine ⟨_, rfl, t, _, _, _, rfl, rfl, hT, rfl, _, rfl, u, _, _, _, rfl, rfl, hU, rfl, rfl, _, rfl, ?_⟩
    by_cases h1 : p.2 = r.1
    · rw [if_pos h1] at q0 q
      refine iteNS (congrArg V.int h1) ?_
      refine ⟨_, rfl, t, _, _, _, rfl, rfl, hT, rfl, _, rfl, u, _, _, _, rfl, rfl, hU, rfl, rfl, _, rfl, ?_⟩
      by_cases h2 : p.1 = r.2
      · rw [if_pos h2] at q0
        rw [decide_eq_true (congrArg V.int h2)]
        exact iteT q0
      · rw [if_neg h2] at q
        rw [decide_eq_false fun e => h2 (V.int.inj e)]
        refine iteF ?_
        refine ⟨_, rfl, lw, rfl, ⟨_, SqL.of hA⟩, fun l fl => ?_⟩
        refine c_list (K := K) (a := lw) (xs := as.map V.ref) (fun i ys σ H' => ∃ v, σ = [v, some (.ref t), some (.ref u)] ∧ Same H H' ∧ H' l = some (.lst ys) ∧ ys = ((ws.take i).map fun w => decide (p.1 ∈ w) && (decide (r.2 ∈ w) && !decide (p.2 ∈ w))).map V.bl)
          ⟨none, rfl, Same.new fl, upd_same, rfl⟩ (fun i ys σ H' _ ⟨_, _, s1, _⟩ => s1.seq (SqL.of hA)) ?_ ?_
        · rintro i x ys σ H' hi ⟨v, rfl, s1, hL, rfl⟩
          rw [List.getElem?_map] at hi
          cases e : as[i]? with
          | none => rw [e] at hi; cases hi
          | some b =>
            rw [e] at hi
            obtain rfl : V.ref b = x := Option.some.inj hi
            obtain ⟨w', k1, k2⟩ := paired_get1 hP e
            have hB : SqL K H' b (w'.map V.int) := SqL.of (s1 _ _ k2)
            have fin : ∀ z : Bool, z = (decide (p.1 ∈ w') && (decide (r.2 ∈ w') && !decide (p.2 ∈ w'))) → H' l = some (.lst (((ws.take i).map fun w => decide (p.1 ∈ w) && (decide (r.2 ∈ w) && !decide (p.2 ∈ w))).map V.bl)) ∧ (((ws.take i).map fun w => decide (p.1 ∈ w) && (decide (r.2 ∈ w) && !decide (p.2 ∈ w))).map V.bl).length < sizeLine ∧
                ∃ v, [some (V.ref b), some (.ref t), some (.ref u)] = [v, some (.ref t), some (.ref u)] ∧ Same H (upd H' l (.lst (((ws.take i).map fun w => decide (p.1 ∈ w) && (decide (r.2 ∈ w) && !decide (p.2 ∈ w))).map V.bl ++ [.bl z]))) ∧ (upd H' l (.lst (((ws.take i).map fun w => decide (p.1 ∈ w) && (decide (r.2 ∈ w) && !decide (p.2 ∈ w))).map V.bl ++ [.bl z]))) l = some (.lst (((ws.take i).map fun w => decide (p.1 ∈ w) && (decide (r.2 ∈ w) && !decide (p.2 ∈ w))).map V.bl ++ [.bl z])) ∧
                ((ws.take i).map fun w => decide (p.1 ∈ w) && (decide (r.2 ∈ w) && !decide (p.2 ∈ w))).map V.bl ++ [.bl z] = ((ws.take (i + 1)).map fun w => decide (p.1 ∈ w) && (decide (r.2 ∈ w) && !decide (p.2 ∈ w))).map V.bl := fun z hz => by
              refine ⟨hL, ?_, _, rfl, s1.put fl, upd_same, ?_⟩
              · rw [List.length_map, List.length_map]
                have := List.length_take_le' i ws
                exact small1000 (by omega)
              · rw [List.take_add_one, k1, List.map_append, List.map_append, hz]
                rfl
            refine ⟨_, rfl, t, _, _, _, rfl, rfl, s1.tupq hT, rfl, _, rfl, b, _, rfl, .inl hB, rfl, flat_ints _, _, rfl, ?_⟩
            show if (inV (V.int p.1) (w'.map V.int)) = true then _ else _
            rw [inV_int]
            refine ite2 (fun z1 => ?_) (fun z1 => ?_)
            · refine ⟨_, rfl, u, _, _, _, rfl, rfl, s1.tupq hU, rfl, _, rfl, b, _, rfl, .inl hB, rfl, flat_ints _, _, rfl, ?_⟩
              show if (inV (V.int r.2) (w'.map V.int)) = true then _ else _
              rw [inV_int]
              refine ite2 (fun z2 => ?_) (fun z2 => ?_)
              · refine ⟨_, rfl, t, _, _, _, rfl, rfl, s1.tupq hT, rfl, _, rfl, b, _, rfl, .inl hB, rfl, flat_ints _, ?_⟩
                refine fin _ ?_
                show (!inV (V.int p.2) (w'.map V.int)) = _
                rw [inV_int, z1, z2]
                rfl
              · refine fin _ ?_
                rw [Bool.not_eq_true] at z2
                rw [z1, z2]
                rfl
            · refine fin _ ?_
              rw [Bool.not_eq_true] at z1
              rw [z1]
              rfl
        · rintro ys σ H' ⟨v, rfl, s1, hL, rfl⟩
          rw [List.length_map, Paired.length hP, List.take_length] at hL
          refine ⟨l, _, rfl, SqL.of hL, ?_⟩
          have := q H' s1
          unfold Sh.split at this
          rw [List.any_map]
          exact this
    · rw [if_neg h1] at q0
      rw [decide_eq_false fun e => h1 (V.int.inj e)]
      exact iteT q0

theorem ok_barring (T : Txt K mg) : Cal P w K mg base 2 "barring" ["wishes", "one", "other"] (fun vs H Q _ => ∃ (lw t u : Addr) (ws : List (List Int)) (p r : Int × Int), vs = [.ref lw, .ref t, .ref u] ∧ WL H lw ws ∧ ws.length ≤ 100 ∧ TurnAt K H t p ∧ TurnAt K H u r ∧ ∀ H', Same H H' → Q (.bl (Sh.bars ws p r)) H') := by
  have C_barring_onward := ok_barring_onward (P := P) (w := w) (base := base) T
  refine T.d_barring.ok sc_barring (fun vs H Q E h => ?_) (fun f cdv A outer s H vs Q E hr h => ?_)
  · obtain ⟨lw, t, u, ws, p, r, rfl, _⟩ := h
    rfl
  · obtain ⟨lw, t, u, ws, p, r, rfl, hW, hlen, hT, hU, q⟩ := h
    refine ⟨_, (pss_one (ps_ret (pe_or (pe_cal C_barring_onward (hr.mono (by first | decide | omega)) rfl (pa_cons (pv 0) (pa_cons (pv 1) (pa_cons (pv 2) pa_nil)))) (pe_one (pe_cal C_barring_onward (hr.mono (by first | decide | omega)) rfl (pa_cons (pv 0) (pa_cons (pv 2) (pa_cons (pv 1) pa_nil)))))))), ?_⟩
    refine ⟨_, rfl, _, rfl, _, rfl, lw, t, u, ws, p, r, rfl, hW, hlen, hT, hU, fun H1 s1 => ⟨_, rfl, ?_⟩⟩
    unfold Sh.bars at q
    refine ite2 (fun z => ?_) (fun z => ?_)
    · have := q H1 s1
      rw [z, Bool.true_or] at this
      exact this
    · rw [Bool.not_eq_true] at z
      refine ⟨_, rfl, _, rfl, _, rfl, lw, u, t, ws, r, p, rfl, hW.same s1, hlen, s1.tupq hU, s1.tupq hT, fun H2 s2 => ?_⟩
      have := q H2 (s1.trans s2)
      rw [z, Bool.false_or] at this
      exact this


end
end K08
namespace K08
open PySem L2
set_option maxRecDepth 100000
set_option maxHeartbeats 4000000
section
variable {P : Program} {w : World} {K : PySem.W.Frag} {mg : Str → Option Value} {base : Heap}
def spAllT : Sp := fun vs H Q _ => ∃ n : Nat, vs = [.int n] ∧ n ≤ 8 ∧ ∀ l H', H l = none → Same H H' → TL H' l (Sh.allT n) → Q (.ref l) H'
theorem ok_all_turns (T : Txt K mg) : Cal P w K mg base 1 "all_turns" ["many"] spAllT := by
  refine T.d_all_turns.ok sc_all_turns (fun vs H Q E h => ?_) (fun f cdv A outer s H vs Q E hr h => ?_)
  · obtain ⟨n, rfl, _⟩ := h
    rfl
  · obtain ⟨n, rfl, h8, q⟩ := h
    refine ⟨_, (pss_cons (ps_set (i := 1) sc_all_turns.nd rfl (Or.inl rfl) (pe_lst pa_nil)) (pss_cons (ps_for PassesOwn.never rfl (pi_range1 rfl T.b_range (pa_cons (pv 0) pa_nil)) (pg_name (i := 2) sc_all_turns.nd rfl (Or.inl rfl)) (pss_one (ps_for PassesOwn.never rfl (pi_range1 rfl T.b_range (pa_cons (pv 0) pa_nil)) (pg_name (i := 3) sc_all_turns.nd rfl (Or.inl rfl)) (pss_one (ps_if (pt_cmpR op_ne (pv 2) (pv 3) (nomark _)) (pss_one (ps_expr (pe_bm PySem.F.plainAttrs_list PySem.F.slot_list_append PySem.F.type_list_append mt_append (pv 1) (pa_cons (pe_tup (pa_cons (pv 2) (pa_cons (pv 3) pa_nil))) pa_nil)))) pss_nil))))) (pss_one (ps_ret (pv 1))))), ?_⟩
    refine ⟨Nat.zero_le _, fun l fl => ?_⟩
    refine ⟨_, rfl, (n : Int), rfl, by omega, by omega, for_range (n := ((n : Int)).toNat) (fun i σ H' => ∃ v1 v2, σ = [some (.int n), some (.ref l), v1, v2] ∧ Same H H' ∧ TL H' l (Sh.turnsI n i) ∧ (Sh.turnsI n i).length ≤ 8 * i)
      ⟨none, none, rfl, Same.new fl, ⟨[], upd_same, .nil⟩, Nat.le_refl _⟩ ?_ ?_⟩
    · rintro i σ H' hi ⟨v1, v2, rfl, s1, hT, hl⟩
      have hi : i < n := by simpa using hi
      rw [Int.zero_add]
      refine ⟨_, rfl, (n : Int), rfl, by omega, by omega, for_range (n := ((n : Int)).toNat) (fun j σ H' => ∃ v2, σ = [some (.int n), some (.ref l), some (.int i), v2] ∧ Same H H' ∧ TL H' l (Sh.turnsI n i ++ Sh.turnsJ i j) ∧ (Sh.turnsI n i ++ Sh.turnsJ i j).length ≤ 8 * i + j)
        ⟨v2, rfl, s1, by rw [show Sh.turnsJ i 0 = [] from rfl, List.append_nil]; exact hT, by rw [show Sh.turnsJ i 0 = [] from rfl, List.append_nil]; omega⟩ ?_ ?_⟩
      · rintro j σ H' hj ⟨v2, rfl, s1, ⟨as, hL, hP⟩, hl⟩
        have hj : j < n := by simpa using hj
        rw [Int.zero_add]
        have sc := Sh.turnsJ_succ i j
        refine ⟨_, rfl, _, rfl, rfl, _, rfl, ?_⟩
        by_cases e : (i : Int) = (j : Int)
        · rw [if_pos e] at sc
          refine iteNS (congrArg V.int e) ?_
          exact ⟨_, rfl, s1, by rw [sc]; exact ⟨as, hL, hP⟩, by rw [sc]; omega⟩
        · rw [if_neg e] at sc
          rw [decide_eq_false fun z => e (V.int.inj z)]
          refine iteT ?_
          refine ⟨_, rfl, .inl ⟨rfl, _, SqL.of hL⟩, _, rfl, _, rfl, (by show 2 ≤ sizeLine; decide), fun t ft => ?_⟩
          have nl : l ≠ t := fun e => by rw [← e, hL] at ft; cases ft
          have hz := hP.len
          refine ⟨l, _, _, rfl, rfl, by rw [upd_ne nl]; exact hL, ?_, _, rfl, (s1.trans (Same.new ft)).put fl, ?_, ?_⟩
          · rw [List.length_map, hz]
            exact small1000 (by omega)
          · rw [sc, ← List.append_assoc]
            exact TL.push (by rw [upd_ne nl]; exact hL) (hP.new ft) upd_same
          · rw [sc, ← List.append_assoc, List.length_append, List.length_singleton]
            omega
      · rintro σ H' ⟨v2, rfl, s1, hT, hl⟩
        have en : ((n : Int)).toNat = n := by simp
        rw [en, ← Sh.turnsI_succ] at hT hl
        exact ⟨_, _, rfl, s1, hT, by omega⟩
    · rintro σ H' ⟨v1, v2, rfl, s1, hT, hl⟩
      have en : ((n : Int)).toNat = n := by simp
      rw [en] at hT
      exact ⟨_, rfl, q l H' fl s1 hT⟩

def spBarred : Sp := fun vs H Q _ => ∃ (n : Nat) (lw : Addr) (ws : List (List Int)), vs = [.int n, .ref lw] ∧ n ≤ 8 ∧ WL H lw ws ∧ ws.length ≤ 100 ∧ (∀ w ∈ ws, Sh.Good n w) ∧
  ∀ d H', H d = none → Same H H' → PD H' d (fun _ => True) ((Sh.allT n).map fun p => (p, Sh.nbT n ws p)) → Q (.ref d) H'
theorem ok_barred_turns (T : Txt K mg) : Cal P w K mg base 3 "barred_turns" ["many", "wishes"] spBarred := by
  have C_all_turns := ok_all_turns (P := P) (w := w) (base := base) T
  have C_barring := ok_barring (P := P) (w := w) (base := base) T
  refine T.d_barred_turns.ok sc_barred_turns (fun vs H Q E h => ?_) (fun f cdv A outer s H vs Q E hr h => ?_)
  · obtain ⟨n, lw, ws, rfl, _⟩ := h
    rfl
  · obtain ⟨n, lw, ws, rfl, h8, hW, hlen, hg, q⟩ := h
    have hu := hu_of hr
    refine ⟨_, (pss_cons (ps_set (i := 2) sc_barred_turns.nd rfl (Or.inl rfl) (pe_cal C_all_turns (hr.mono (by first | decide | omega)) rfl (pa_cons (pv 0) pa_nil))) (pss_cons (ps_set (i := 3) sc_barred_turns.nd rfl (Or.inr rfl) (pe_comp (own := own_barred_turns_c1) (cap := cap_barred_turns_c1) rfl rfl bs_barred_turns_c1 (k_list (K := K) rfl (pv 1)) (fun _ _ _ _ => (pg_name (i := 0) nd_barred_turns_c1 rfl (Or.inl rfl) (Or.inr rfl))) (fun _ _ _ _ => pts_nil) (fun _ _ _ _ => (k_sortSet (K := K) rfl rfl T.b_sorted rfl T.b_set rfl (pv 0))))) (pss_cons (ps_set (i := 4) sc_barred_turns.nd rfl (Or.inl rfl) pe_dnewT) (pss_cons (ps_for PassesOwn.never rfl (k_list (K := K) rfl (pv 2)) (pg_name (i := 5) sc_barred_turns.nd rfl (Or.inr rfl)) (pss_one (ps_dput hu (pv 4) (pv 5) (pe_comp (own := own_barred_turns_c0) (cap := cap_barred_turns_c0) rfl rfl bs_barred_turns_c0 (k_list (K := K) rfl (pv 2)) (fun _ _ _ _ => (pg_name (i := 0) nd_barred_turns_c0 rfl (Or.inl rfl) (Or.inr rfl))) (fun _ _ _ _ => (pts_one (pt_val (pe_cal C_barring (hr.mono (by first | decide | omega)) rfl (pa_cons (pv 1) (pa_cons (pv 2) (pa_cons (pv 0) pa_nil))))))) (fun _ _ _ _ => (pv 0))) rfl))) (pss_one (ps_ret (pv 4))))))), ?_⟩
    refine ⟨_, rfl, n, rfl, h8, fun lt H1 flt s1 hT1 => ?_⟩
    obtain ⟨as1, hA1, hP1⟩ := (hW.same s1)
    refine ⟨_, rfl, lw, rfl, ⟨_, SqL.of hA1⟩, fun lsw fsw => ?_⟩
    refine c_norm (hW.same s1) hlen h8 hg fsw fun H2 s2 hWx => ?_
    have hW2 := hWx.wl
    intro d fd
    obtain ⟨ts, hA2, hP2⟩ := hT1.same s2
    have lts : ts.length = (Sh.allT n).length := hP2.len
    have l56 := Sh.allT_len h8
    have fdH : H d = none := (s1.trans s2).free fd
    refine ⟨_, rfl, lt, rfl, ⟨_, SqL.of (by rw [upd_ne (fun z => by rw [z, fd] at hA2; cases hA2)]; exact hA2)⟩, for_list (K := K) (a := lt) (xs := ts.map V.ref) (fun i σ H' => ∃ v, σ = [some (.int n), some (.ref lw), some (.ref lt), some (.ref lsw), some (.ref d), v] ∧ Same H2 H' ∧ PD H' d (fun _ => True) (((Sh.allT n).take i).map fun p => (p, Sh.nbT n ws p)))
      ⟨none, rfl, Same.new fd, ⟨[], upd_same, .nil⟩⟩ (fun i σ H' _ ⟨_, _, s3, _⟩ => SqL.of (s3 _ _ hA2)) ?_ ?_⟩
    · rintro i x σ H' hi ⟨v, rfl, s3, hD⟩
      rw [List.getElem?_map] at hi
      cases e : ts[i]? with
      | none => rw [e] at hi; cases hi
      | some t =>
        rw [e] at hi
        obtain rfl : V.ref t = x := Option.some.inj hi
        obtain ⟨p, hp1, hp2⟩ := paired_get1 hP2 e
        have hi' : i < (Sh.allT n).length := (List.getElem?_eq_some_iff.mp hp1).1
        refine ⟨_, rfl, lt, rfl, ⟨_, SqL.of (s3 _ _ hA2)⟩, fun l fl => ?_⟩
        refine c_list (K := K) (a := lt) (xs := ts.map V.ref) (fun j ys σ H'' => ∃ u, σ = [u, some (.ref lsw), some (.ref t)] ∧ Same H' H'' ∧ H'' l = some (.lst ys) ∧ ∃ cs : List Addr, ys = cs.map V.ref ∧ TPs H'' cs (((Sh.allT n).take j).filter (Sh.bars ws p)))
          ⟨none, rfl, Same.new fl, upd_same, [], rfl, .nil⟩ (fun j ys σ H'' _ ⟨_, _, s4, _⟩ => SqL.of (s4 _ _ (s3 _ _ hA2))) ?_ ?_
        · rintro j x ys σ H'' hj ⟨u, rfl, s4, hL, cs, rfl, hC⟩
          rw [List.getElem?_map] at hj
          cases e2 : ts[j]? with
          | none => rw [e2] at hj; cases hj
          | some t2 =>
            rw [e2] at hj
            obtain rfl : V.ref t2 = x := Option.some.inj hj
            obtain ⟨p2, hq1, hq2⟩ := paired_get1 hP2 e2
            have tk : (Sh.allT n).take (j + 1) = (Sh.allT n).take j ++ [p2] := by rw [List.take_add_one, hq1]; rfl
            refine ⟨_, rfl, _, rfl, _, rfl, lsw, t, t2, ws.map Sh.norm, p, p2, rfl, (hW2.same s3).same s4, by rw [List.length_map]; exact hlen, SqT.of (s4 _ _ (s3 _ _ hp2)), SqT.of (s4 _ _ (s3 _ _ hq2)), fun H3 s5 => ⟨_, rfl, ?_⟩⟩
            rw [Sh.bars_norm h8 hg]
            refine ite2 (fun z => ?_) (fun z => ?_)
            · refine ⟨_, rfl, s5 _ _ hL, ?_, _, rfl, (s4.trans s5).put fl, upd_same, cs ++ [t2], by rw [List.map_append]; rfl, ?_⟩
              · rw [List.length_map, hC.len]
                have h1 := List.length_filter_le (Sh.bars ws p) ((Sh.allT n).take j)
                have h2 := List.length_take_le' j (Sh.allT n)
                exact small1000 (by omega)
              · rw [tk, List.filter_append, List.filter_cons_of_pos z, List.filter_nil]
                exact TPs.upd (Paired.snoc (hC.same s5) (s5 _ _ (s4 _ _ (s3 _ _ hq2)))) (s5 _ _ hL) (lst_ne _)
            · refine ⟨_, rfl, s4.trans s5, s5 _ _ hL, cs, rfl, ?_⟩
              rw [tk, List.filter_append, List.filter_cons_of_neg z, List.filter_nil, List.append_nil]
              exact hC.same s5
        · rintro ys σ H'' ⟨u, rfl, s4, hL, cs, rfl, hC⟩
          rw [List.length_map, lts, List.take_length] at hC
          obtain ⟨kvs, hK, hKP⟩ := hD.same s4
          have hnew : ¬ ∃ c, (p, c) ∈ ((Sh.allT n).take i).map fun p => (p, Sh.nbT n ws p) := by
            rintro ⟨c, hc⟩
            obtain ⟨p', hp', e'⟩ := List.mem_map.mp hc
            have e' : p' = p := (Prod.mk.inj e').1
            subst e'
            obtain ⟨m, hm, em⟩ := List.mem_iff_getElem.mp hp'
            rw [List.length_take] at hm
            rw [List.getElem_take] at em
            obtain ⟨_, ei⟩ := List.getElem?_eq_some_iff.mp hp1
            exact List.pairwise_iff_getElem.mp (Sh.allT_nodup h8) m i (by omega) hi' (by omega) (em.trans ei.symm)
          have hv : valV kvs (kT p) = none := by
            rcases PD.look p hKP with z | ⟨l', c, _, b, _⟩
            · exact z.1
            · exact absurd ⟨c, b⟩ hnew
          have hk := PD.len hKP
          rw [List.length_map, List.length_take] at hk
          refine ⟨_, rfl, _, rfl, d, _, rfl, DPut.t hK (kT_tup (s4 _ _ (s3 _ _ hp2))) (small1000 (by omega)), ?_⟩
          refine ⟨_, rfl, (s3.trans s4).put fd, ⟨_, upd_same, ?_⟩⟩
          have nl : l ≠ d := fun z => by rw [z, hK] at hL; cases hL
          rw [putK_new _ hv, List.take_add_one, hp1, List.map_append]
          refine Paired.snoc (Paired.mapP hKP fun kv en ⟨a1, l', a2, a3, a4⟩ => ⟨a1, l', a2, a3, a4.upd hK (dT_ne _) fun z => ?_⟩) ⟨rfl, l, rfl, trivial, TL.upd ⟨cs, hL, hC⟩ hK (dT_ne _) nl⟩
          obtain ⟨_, a5, _⟩ := a4
          rw [z, hK] at a5
          cases a5
    · rintro σ H' ⟨v, rfl, s3, hD⟩
      rw [List.length_map, lts, List.take_length] at hD
      exact ⟨_, rfl, q d H' fdH ((s1.trans s2).trans s3) hD⟩

end
end K08
namespace K08
open PySem L2
set_option maxRecDepth 100000
set_option maxHeartbeats 4000000
section
variable {P : Program} {w : World} {K : PySem.W.Frag} {mg : Str → Option Value} {base : Heap}
def PathsOk (H : Hp) (d t0 r : Addr) (n : Nat) (ws : List (List Int)) (s0 : Tn) (m : Nat) (σ : St) (H' : Hp) : Prop :=
  ∃ (lo : Addr) (v4 v5 v6 : Option V) (k : Nat) (paths : List (Tn × List Tn)) (ot : List Tn), σ = [some (.ref d), some (.ref t0), some (.ref r), some (.ref lo), v4, v5, v6] ∧ Same H H' ∧ PD H' r (fun l => H l = none) paths ∧ TL H' lo ot ∧
    Sh.Bfs (Sh.nbT n ws) s0 k paths [] (fun _ _ => False) ∧ (∀ t, t ∈ ot ↔ ∃ c, (t, c) ∈ paths ∧ c.length = k + 1) ∧ (∀ t c, (t, c) ∈ paths → Sh.Turn n t) ∧ (ot ≠ [] → k + 1 ≤ paths.length) ∧ paths.length ≤ 56 ∧ k ≤ 56 ∧ m = 2 * (57 - paths.length) + (if ot = [] then 0 else 1)
def spPaths : Sp := fun vs H Q _ => ∃ (d t0 : Addr) (n : Nat) (ws : List (List Int)) (s0 : Tn) (g : Addr → Prop), vs = [.ref d, .ref t0] ∧ n ≤ 8 ∧ PR H d g ((Sh.allT n).map fun p => (p, Sh.nbT n ws p)) ∧ H t0 = some (tupT s0) ∧ Sh.Turn n s0 ∧
  ∀ r H' paths k, H r = none → Same H H' → PD H' r (fun l => H l = none) paths → Sh.Bfs (Sh.nbT n ws) s0 k paths [] (fun _ _ => False) → (∀ t c, (t, c) ∈ paths → c.length ≠ k + 1) → (∀ t c, (t, c) ∈ paths → Sh.Turn n t) → k ≤ 56 → paths.length ≤ 56 → Q (.ref r) H'
structure PLp (H : Hp) (r lo lf : Addr) (n : Nat) (ws : List (List Int)) (s0 : Tn) (k : Nat) (as : List Addr) (ot : List Tn) (paths : List (Tn × List Tn)) (i : Nat) (H' : Hp) (paths' : List (Tn × List Tn)) (fnd : List Tn) (done : Tn → Tn → Prop) : Prop where
  sm : Same H H'
  lo' : H' lo = some (.lst (as.map V.ref))
  ot' : TPs H' as ot
  pd : PD H' r (fun l => H l = none ∧ l ≠ lf) paths'
  fd : TL H' lf fnd
  bf : Sh.Bfs (Sh.nbT n ws) s0 k paths' fnd done
  dn : ∀ t ∈ ot.take i, ∀ q ∈ Sh.nbT n ws t, done t q
  sb : ∀ e ∈ paths, e ∈ paths'
  tn : ∀ t c, (t, c) ∈ paths' → Sh.Turn n t
  ln : paths'.length = paths.length + fnd.length
  nw : ∀ e ∈ paths', e ∈ paths ∨ e.2.length = k + 2
theorem ok_paths_from (T : Txt K mg) : Cal P w K mg base 1 "paths_from" ["barred", "start"] spPaths := by
  refine T.d_paths_from.ok sc_paths_from (fun vs H Q E h => ?_) (fun f cdv A outer s H vs Q E hr h => ?_)
  · obtain ⟨d, t0, n, ws, s0, g, rfl, _⟩ := h
    rfl
  · obtain ⟨d, t0, n, ws, s0, g, rfl, h8, hD, ht0, tn0, q⟩ := h
    have hu := hu_of hr
    obtain ⟨kvd, hKd, hPd⟩ := id hD
    -- what each turn bars
    have nbAt : ∀ p, Sh.Turn n p → ∃ lnb as, valV kvd (kT p) = some (.ref lnb) ∧ H lnb = some (.lst (as.map V.ref)) ∧ TPs H as (Sh.nbT n ws p) := fun p tp => by
      rcases PD.look p hPd with ⟨_, z⟩ | ⟨l, c, a, b, _, e⟩
      · exact absurd ⟨_, List.mem_map.mpr ⟨p, Sh.mem_allT.mpr tp, rfl⟩⟩ z
      · obtain ⟨p', _, e'⟩ := List.mem_map.mp b
        obtain ⟨rfl, rfl⟩ := Prod.mk.inj e'
        obtain ⟨as, e1, e2⟩ := e
        exact ⟨l, as, a, e1, e2⟩
    refine ⟨_, (pss_cons (ps_set (i := 2) sc_paths_from.nd rfl (Or.inl rfl) (pe_disp1 hu (pv 1) (pe_lst (pa_cons (pv 1) pa_nil)))) (pss_cons (ps_set (i := 3) sc_paths_from.nd rfl (Or.inl rfl) (pe_lst (pa_cons (pv 1) pa_nil))) (pss_cons (ps_while PassesOwn.never (pt_truth (pv 3) (fun _ => rfl)) (pss_cons (ps_set (i := 4) sc_paths_from.nd rfl (Or.inl rfl) (pe_lst pa_nil)) (pss_cons (ps_for PassesOwn.never rfl (k_list (K := K) rfl (pv 3)) (pg_name (i := 5) sc_paths_from.nd rfl (Or.inl rfl)) (pss_one (ps_for PassesOwn.never rfl (k_list (K := K) rfl (pe_dget hu (pv 0) (pv 5) (fun _ _ => rfl))) (pg_name (i := 6) sc_paths_from.nd rfl (Or.inl rfl)) (pss_one (ps_if (pt_cmp (pc_dnotin hu (pv 6) (pv 2))) (pss_cons (ps_dput hu (pv 2) (pv 6) (pe_op op_cat (pe_dget hu (pv 2) (pv 5) (fun _ _ => rfl)) (pe_lst (pa_cons (pv 6) pa_nil))) rfl) (pss_one (ps_expr (pe_bm PySem.F.plainAttrs_list PySem.F.slot_list_append PySem.F.type_list_append mt_append (pv 4) (pa_cons (pv 6) pa_nil))))) pss_nil))))) (pss_one (ps_set (i := 3) sc_paths_from.nd rfl (Or.inl rfl) (pv 4)))))) (pss_one (ps_ret (pv 2)))))), ?_⟩
    intro r fr
    refine ⟨_, rfl, _, rfl, (by show 1 ≤ sizeLine; decide), fun l0 fl0 => ?_⟩
    have nr0 : r ≠ l0 := fun e => by rw [← e, upd_same] at fl0; cases fl0
    have fl0H : H l0 = none := by rw [upd_ne (Ne.symm nr0)] at fl0; exact fl0
    have sA : Same H (upd (upd H r (.dT [])) l0 (.lst [.ref t0])) := (Same.new fr).trans (Same.new fl0)
    refine ⟨by rw [upd_ne nr0]; exact upd_same, t0, kT s0, rfl, sA _ _ ht0, ?_⟩
    have sB : Same H (upd (upd (upd H r (.dT [])) l0 (.lst [.ref t0])) r (.dT [(kT s0, .ref l0)])) := sA.put fr
    refine ⟨_, rfl, (by show 1 ≤ sizeLine; decide), fun lo flo => ?_⟩
    have sC := sB.trans (Same.new (o := .lst [.ref t0]) flo)
    have nlo : l0 ≠ lo := fun e => by
      rw [← e, upd_ne (Ne.symm nr0), upd_same] at flo
      cases flo
    have nro : r ≠ lo := fun e => by
      rw [← e, upd_same] at flo
      cases flo
    refine ⟨PathsOk H d t0 r n ws s0, ⟨_, lo, none, none, none, 0, [(s0, [s0])], [s0], rfl, sC, ⟨[(kT s0, .ref l0)], by rw [upd_ne nro, upd_same], .cons ⟨rfl, l0, rfl, fl0H, [t0], ?_, .cons (sC _ _ ht0) .nil⟩ .nil⟩, ⟨[t0], upd_same, .cons (sC _ _ ht0) .nil⟩, Sh.Bfs.start, fun t => ?_, fun t c h => ?_, fun _ => by simp, by simp, by decide, rfl⟩, ?_⟩
    · rw [upd_ne nlo, upd_ne (Ne.symm nr0), upd_same]
      rfl
    · constructor
      · intro h
        have h : t = s0 := by simpa using h
        subst h
        exact ⟨[t], by simp, rfl⟩
      · rintro ⟨c, h, _⟩
        have h : (t, c) = (s0, [s0]) := by simpa using h
        cases h
        simp
    · have h : (t, c) = (s0, [s0]) := by simpa using h
      cases h
      exact tn0
    rintro m σ H1 ⟨lo, v4, v5, v6, k, paths, ot, rfl, s1, hPD, ⟨as, hLo, hOt⟩, B, hot, htn, hkl, h56, hk56, rfl⟩
    refine ⟨_, rfl, _, .inl ⟨_, SqL.of hLo, rfl⟩, ?_⟩
    by_cases hz : ot = []
    · subst hz
      have ea : as = [] := List.length_eq_zero_iff.mp (by rw [hOt.len]; rfl)
      subst ea
      refine iteF ?_
      refine ⟨_, rfl, q r H1 paths k fr s1 hPD B (fun t c h hc => ?_) htn hk56 h56⟩
      exact absurd ((hot t).mpr ⟨c, h, hc⟩) (by simp)
    · have ea : (!(as.map V.ref).isEmpty) = true := by
        cases as with
        | nil => exact absurd (List.length_eq_zero_iff.mp (by rw [← hOt.len]; rfl)) hz
        | cons _ _ => rfl
      rw [ea]
      refine iteT ⟨fun σ' H' => ∃ m', m' < 2 * (57 - paths.length) + (if ot = [] then 0 else 1) ∧ PathsOk H d t0 r n ws s0 m' σ' H', fun _ _ z => z, ?_⟩
      refine ⟨Nat.zero_le _, fun lf flf => ?_⟩
      have flfH : H lf = none := s1.free flf
      have nlo : lo ≠ lf := fun e => by rw [← e, hLo] at flf; cases flf
      refine ⟨_, rfl, lo, rfl, ⟨_, SqL.of (by rw [upd_ne nlo]; exact hLo)⟩, for_list (K := K) (a := lo) (xs := as.map V.ref)
        (fun i σ H' => ∃ (v5 v6 : Option V) (paths' : List (Tn × List Tn)) (fnd : List Tn) (done : Tn → Tn → Prop), σ = [some (.ref d), some (.ref t0), some (.ref r), some (.ref lo), some (.ref lf), v5, v6] ∧ PLp H r lo lf n ws s0 k as ot paths i H' paths' fnd done)
        ⟨v5, v6, paths, [], fun _ _ => False, rfl, s1.trans (Same.new flf), by rw [upd_ne nlo]; exact hLo, hOt.new flf, ?_, ⟨[], upd_same, .nil⟩, B, fun t h => absurd h (by simp), fun _ h => h, htn, rfl, fun _ h => .inl h⟩ (fun i σ H' _ ⟨_, _, _, _, _, _, h⟩ => SqL.of h.lo') ?_ ?_⟩
      · obtain ⟨kvs, a1, a2⟩ := hPD
        refine ⟨kvs, (Same.new flf) _ _ a1, Paired.mapP a2 fun kv e ⟨b1, l, b2, b3, b4⟩ => ⟨b1, l, b2, ⟨b3, fun z => ?_⟩, b4.same (Same.new flf)⟩⟩
        obtain ⟨_, b5, _⟩ := b4
        rw [z, flf] at b5
        cases b5
      · -- a turn of the outermost ones
        rintro i x σ H2 hi ⟨v5, v6, paths', fnd, done, rfl, s2, hLo2, hOt2, hPD2, hLf2, B2, hdn, hsub, htn2, hlen2, hnw2⟩
        rw [List.getElem?_map] at hi
        cases e : as[i]? with
        | none => rw [e] at hi; cases hi
        | some t =>
          rw [e] at hi
          obtain rfl : V.ref t = x := Option.some.inj hi
          obtain ⟨p, hp1, hp2⟩ := paired_get1 hOt2 e
          obtain ⟨cp, hcp, hcl⟩ := (hot p).mp (List.mem_of_getElem? hp1)
          have tp : Sh.Turn n p := htn p cp hcp
          obtain ⟨lnb, nbs, hv1, hv2, hv3⟩ := nbAt p tp
          have tk : ot.take (i + 1) = ot.take i ++ [p] := by rw [List.take_add_one, hp1]; rfl
          refine ⟨_, rfl, _, rfl, d, _, rfl, DGet.tvr (hKd.same s2) hp2 hv1, lnb, rfl, ⟨_, SqL.of (s2 _ _ hv2)⟩, for_list (K := K) (a := lnb) (xs := nbs.map V.ref)
            (fun j σ H' => ∃ (v6 : Option V) (paths' : List (Tn × List Tn)) (fnd : List Tn) (done : Tn → Tn → Prop), σ = [some (.ref d), some (.ref t0), some (.ref r), some (.ref lo), some (.ref lf), some (.ref t), v6] ∧ (∀ q ∈ (Sh.nbT n ws p).take j, done p q) ∧ PLp H r lo lf n ws s0 k as ot paths i H' paths' fnd done)
            ⟨v6, paths', fnd, done, rfl, fun q h => absurd h (by simp), s2, hLo2, hOt2, hPD2, hLf2, B2, hdn, hsub, htn2, hlen2, hnw2⟩ (fun j σ H' _ ⟨_, _, _, _, _, _, s3⟩ => SqL.of (s3.sm _ _ hv2)) ?_ ?_⟩
          · rintro j x σ H3 hj ⟨v6, paths3, fnd3, done3, rfl, hdp3, s3, hLo3, hOt3, ⟨kvs, hKr, hPr⟩, ⟨fs, hLf3, hFs3⟩, B3, hdn3, hsub3, htn3, hlen3, hnw3⟩
            rw [List.getElem?_map] at hj
            cases e2 : nbs[j]? with
            | none => rw [e2] at hj; cases hj
            | some a2 =>
              rw [e2] at hj
              obtain rfl : V.ref a2 = x := Option.some.inj hj
              obtain ⟨p2, hq1, hq2⟩ := paired_get1 (hv3.same s3) e2
              have hq3 : p2 ∈ Sh.nbT n ws p := List.mem_of_getElem? hq1
              have tp2 : Sh.Turn n p2 := (Sh.mem_nbT.mp hq3).1
              have tkj : (Sh.nbT n ws p).take (j + 1) = (Sh.nbT n ws p).take j ++ [p2] := by rw [List.take_add_one, hq1]; rfl
              have dn' : ∀ t ∈ ot.take i, ∀ q ∈ Sh.nbT n ws t, done3 t q ∨ (t = p ∧ q = p2) := fun t h q h' => .inl (hdn3 t h q h')
              have dp' : ∀ q ∈ (Sh.nbT n ws p).take (j + 1), done3 p q ∨ (p = p ∧ q = p2) := fun q h => by
                rw [tkj] at h
                rcases List.mem_append.mp h with z | z
                · exact .inl (hdp3 q z)
                · exact .inr ⟨rfl, by simpa using z⟩
              refine ⟨_, rfl, _, rfl, r, _, rfl, DGet.t hKr (kT_tup hq2), _, rfl, ?_⟩
              rcases PD.look p2 hPr with ⟨hv, hno⟩ | ⟨l', c', hv, hin, _, _⟩
              · rw [hv]
                refine iteT ?_
                rcases PD.look p hPr with ⟨_, hno'⟩ | ⟨lc, c', hvp, hinp, glc, ⟨cs, hLc, hCs⟩⟩
                · exact absurd ⟨cp, hsub3 _ hcp⟩ hno'
                obtain rfl : c' = cp := B3.key hinp (hsub3 _ hcp)
                refine ⟨_, rfl, _, rfl, r, _, rfl, DGet.tv hKr (paired_get1 hOt3 e |>.elim fun p' h => by rw [hp1] at h; cases h.1; exact h.2) hvp, _, rfl, (by show 1 ≤ sizeLine; decide), fun l1 fl1 => ?_⟩
                have p56 : paths3.length ≤ 56 := by
                  refine Nat.le_trans ?_ (Sh.allT_len h8)
                  rw [← List.length_map (f := fun e : Tn × List Tn => e.1)]
                  refine Sh.nodup_le B3.nd fun x hx => ?_
                  obtain ⟨⟨y, c⟩, h1, rfl⟩ := List.mem_map.mp hx
                  exact Sh.mem_allT.mpr (htn3 _ _ h1)
                have n1 : lc ≠ l1 := fun z => by rw [← z, hLc] at fl1; cases fl1
                refine ⟨lc, l1, _, _, rfl, rfl, by rw [upd_ne n1]; exact hLc, upd_same, ?_, fun l2 fl2 => ?_⟩
                · rw [List.length_map, hCs.len, hcl]
                  have kb : k + 1 ≤ paths.length := hkl hz
                  show k + 1 + 1 ≤ sizeLine
                  exact Nat.le_of_lt (small1000 (by omega))
                have s4 : Same H3 (upd (upd H3 l1 (.lst [.ref a2])) l2 (.lst (cs.map V.ref ++ [.ref a2]))) := (Same.new fl1).trans (Same.new fl2)
                have fl2H : H l2 = none := by
                  have := (Same.new (o := .lst [.ref a2]) fl1).free fl2
                  exact s3.free this
                have n2 : l2 ≠ lf := fun z => by
                  have := s4.free (l := l2)
                  rw [z] at fl2
                  rw [(Same.new (o := .lst [.ref a2]) fl1) _ _ hLf3] at fl2
                  cases fl2
                have hT2 : TL (upd (upd H3 l1 (.lst [.ref a2])) l2 (.lst (cs.map V.ref ++ [.ref a2]))) l2 (c' ++ [p2]) := ⟨cs ++ [a2], by rw [upd_same, List.map_append]; rfl, Paired.snoc (hCs.same s4) (s4 _ _ hq2)⟩
                have hPr4 := Paired.mapP hPr fun kv e ⟨b1, l, b2, b3, b4⟩ => (⟨b1, l, b2, b3, b4.same s4⟩ : kv.1 = kT e.1 ∧ ∃ l, kv.2 = V.ref l ∧ (H l = none ∧ l ≠ lf) ∧ TL (upd (upd H3 l1 (.lst [V.ref a2])) l2 (.lst (cs.map V.ref ++ [V.ref a2]))) l e.2)
                have hLf4 := s4 _ _ hLf3
                have hKr4 := s4 _ _ hKr
                have hq24 := s4 _ _ hq2
                have hLo4 := s4 _ _ hLo3
                have hOt4 := hOt3.same s4
                have hFs4 := hFs3.same s4
                have s34 := s3.trans s4
                generalize upd (upd H3 l1 (.lst [V.ref a2])) l2 (.lst (cs.map V.ref ++ [.ref a2])) = H4 at *
                have hk := PD.len hPr
                refine ⟨_, rfl, _, rfl, r, _, rfl, DPut.t hKr4 (kT_tup hq24) (small1000 (by omega)), ?_⟩
                have nrf : r ≠ lf := fun z => by rw [z, hLf4] at hKr4; cases hKr4
                have hLf5 : upd H4 r (.dT (putK kvs (kT p2) (.ref l2))) lf = some (.lst (fs.map V.ref)) := by rw [upd_ne (Ne.symm nrf)]; exact hLf4
                refine ⟨_, rfl, .inl ⟨rfl, _, SqL.of hLf5⟩, _, rfl, lf, _, _, rfl, rfl, hLf5, by rw [List.length_map, hFs3.len]; exact small1000 (by omega), ?_⟩
                have nor : lo ≠ r := fun z => by rw [z, hKr4] at hLo4; cases hLo4
                refine ⟨_, paths3 ++ [(p2, c' ++ [p2])], fnd3 ++ [p2], _, rfl, dp', (s34.put fr).put flfH, by rw [upd_ne nlo, upd_ne nor]; exact hLo4, (hOt4.upd hKr4 (dT_ne _)).upd hLf5 (lst_ne _), PD.put hKr4 hPr4 hv hT2 ⟨fl2H, n2⟩ (fun l z => z.2) hLf4, TL.push hLf5 (hFs4.upd hKr4 (dT_ne _)) ?_, B3.add hinp hcl hq3 hno, dn', fun e h => List.mem_append_left _ (hsub3 e h), fun t c h => ?_, ?_, fun e h => ?_⟩
                · rw [upd_ne (fun z => by rw [z, hKr4] at hq24; cases hq24)]
                  exact hq24
                · rcases List.mem_append.mp h with z | z
                  · exact htn3 t c z
                  · have z : (t, c) = (p2, c' ++ [p2]) := by simpa using z
                    cases z
                    exact tp2
                · rw [List.length_append, List.length_append, hlen3]
                  show _ + 1 = _ + (_ + 1)
                  omega
                · rcases List.mem_append.mp h with z | z
                  · exact hnw3 e z
                  · have z : e = (p2, c' ++ [p2]) := by simpa using z
                    subst z
                    exact .inr (by rw [List.length_append, hcl]; rfl)
              · rw [hv]
                refine iteF ?_
                exact ⟨_, paths3, fnd3, _, rfl, dp', s3, hLo3, hOt3, ⟨kvs, hKr, hPr⟩, ⟨fs, hLf3, hFs3⟩, B3.skip ⟨c', hin⟩, dn', hsub3, htn3, hlen3, hnw3⟩
          · rintro σ H3 ⟨v6, paths3, fnd3, done3, rfl, hdp3, s3, hLo3, hOt3, hPD3, hLf3, B3, hdn3, hsub3, htn3, hlen3, hnw3⟩
            rw [List.length_map, hv3.len, List.take_length] at hdp3
            refine ⟨_, _, paths3, fnd3, done3, rfl, s3, hLo3, hOt3, hPD3, hLf3, B3, fun t h => ?_, hsub3, htn3, hlen3, hnw3⟩
            rw [tk] at h
            rcases List.mem_append.mp h with z | z
            · exact hdn3 t z
            · have z : t = p := by simpa using z
              subst z
              exact hdp3
      · rintro σ H2 ⟨v5, v6, paths', fnd, done, rfl, s2, hLo2, hOt2, hPD2, hLf2, B2, hdn, hsub, htn2, hlen2, hnw2⟩
        rw [List.length_map, hOt.len, List.take_length] at hdn
        have up := B2.up (fun t c h hc q hq => by
          refine hdn t ((hot t).mpr ⟨c, ?_, hc⟩) q hq
          rcases hnw2 _ h with z | z
          · exact z
          · have z : c.length = k + 2 := z
            omega)
        have l56 : paths'.length ≤ 56 := by
          refine Nat.le_trans ?_ (Sh.allT_len h8)
          rw [← List.length_map (f := fun e : Tn × List Tn => e.1)]
          refine Sh.nodup_le B2.nd fun x hx => ?_
          obtain ⟨⟨y, c⟩, h1, rfl⟩ := List.mem_map.mp hx
          exact Sh.mem_allT.mpr (htn2 _ _ h1)
        refine ⟨_, rfl, _, ?_, lf, _, _, _, k + 1, paths', fnd, rfl, s2, ?_, hLf2, up, fun t => ⟨fun h => B2.fd t h, ?_⟩, htn2, fun z => ?_, l56, by have := hkl hz; omega, rfl⟩
        · rw [if_neg hz]
          split
          · omega
          · rename_i z
            have : 0 < fnd.length := List.length_pos_iff.mpr z
            omega
        · obtain ⟨kvs, a1, a2⟩ := hPD2
          exact ⟨kvs, a1, Paired.mapP a2 fun kv e ⟨b1, l, b2, b3, b4⟩ => ⟨b1, l, b2, b3.1, b4⟩⟩
        · rintro ⟨c, h, hc⟩
          rcases B2.lo t c h with z | z
          · omega
          · exact z.2
        · have : 0 < fnd.length := List.length_pos_iff.mpr z
          have := hkl hz
          omega


end
end K08
namespace K08
open PySem L2
set_option maxRecDepth 100000
set_option maxHeartbeats 4000000
section
variable {P : Program} {w : World} {K : PySem.W.Frag} {mg : Str → Option Value} {base : Heap}
def spBits (K : PySem.W.Frag) : Sp := fun vs H Q _ => ∃ (b : Addr) (ns : List Int), vs = [.ref b] ∧ SqL K H b (ns.map V.int) ∧ (∀ x ∈ ns, 0 ≤ x ∧ x < 64) ∧ Q (.int ((Sh.bits ns : Nat) : Int)) H
theorem ok_bits_of (T : Txt K mg) : Cal P w K mg base 1 "bits_of" ["books"] (spBits K) := by
  refine T.d_bits_of.ok sc_bits_of (fun vs H Q E h => ?_) (fun f cdv A outer s H vs Q E hr h => ?_)
  · obtain ⟨b, ns, rfl, _⟩ := h
    rfl
  · obtain ⟨b, ns, rfl, hS, hg, q⟩ := h
    refine ⟨_, (pss_cons (ps_set (i := 1) sc_bits_of.nd rfl (Or.inl rfl) pe_int) (pss_cons (ps_for PassesOwn.never rfl (k_list (K := K) rfl (pv 0)) (pg_name (i := 2) sc_bits_of.nd rfl (Or.inl rfl)) (pss_one (ps_set (i := 1) sc_bits_of.nd rfl (Or.inl rfl) (pe_op op_or (pv 1) (pe_op op_shl pe_int (pv 2)))))) (pss_one (ps_ret (pv 1))))), ?_⟩
    refine ⟨_, rfl, b, rfl, ⟨_, hS⟩, for_list (K := K) (a := b) (xs := ns.map V.int) (fun i σ H' => ∃ v, σ = [some (.ref b), some (.int ((Sh.bits (ns.take i) : Nat) : Int)), v] ∧ H' = H) ⟨none, rfl, rfl⟩ (fun i σ H' _ ⟨_, _, e⟩ => by rw [e]; exact hS) ?_ ?_⟩
    · rintro i x σ H' hi ⟨v, rfl, rfl⟩
      rw [List.getElem?_map] at hi
      cases e : ns[i]? with
      | none => rw [e] at hi; cases hi
      | some z =>
        rw [e] at hi
        obtain rfl : V.int z = x := Option.some.inj hi
        have hz := hg z (List.mem_of_getElem? e)
        refine ⟨_, rfl, _, rfl, _, _, rfl, rfl, ⟨hz.1, by omega, by decide⟩, _, _, rfl, rfl, some (.int z), ?_, rfl⟩
        have e1 : (1 : Int) * 2 ^ z.toNat = ((2 ^ z.toNat : Nat) : Int) := by simp
        have e2 : ns.take (i + 1) = ns.take i ++ [z] := by rw [List.take_add_one, e]; rfl
        show [some (V.ref b), some (V.int (Builtin.bitOr ((Sh.bits (ns.take i) : Nat) : Int) (1 * 2 ^ z.toNat))), some (V.int z)] = _
        rw [e1, or_nat, ← Sh.bits_snoc, e2]
    · rintro σ H' ⟨v, rfl, rfl⟩
      rw [List.length_map, List.take_length]
      exact ⟨_, rfl, q⟩
def spHas : Sp := fun vs H Q _ => ∃ (ns : List Int) (x : Int), vs = [.int ((Sh.bits ns : Nat) : Int), .int x] ∧ (∀ b ∈ ns, 0 ≤ b) ∧ 0 ≤ x ∧ Q (.bl (decide (x ∈ ns))) H
theorem ok_has (T : Txt K mg) : Cal P w K mg base 1 "has" ["bits", "book"] spHas := by
  refine T.d_has.ok sc_has (fun vs H Q E h => ?_) (fun f cdv A outer s H vs Q E hr h => ?_)
  · obtain ⟨b, ns, rfl, _⟩ := h
    rfl
  · obtain ⟨ns, x, rfl, hg, hx, q⟩ := h
    refine ⟨_, (pss_one (ps_ret (pe_cmpR op_eq (pe_op op_and (pe_op op_shr (pv 0) (pv 1)) pe_int) pe_int (nomark _)))), ?_⟩
    refine ⟨_, rfl, _, rfl, _, _, rfl, rfl, hx, _, _, rfl, rfl, rfl, ?_⟩
    have e : decide (V.int (Builtin.bitAnd (((Sh.bits ns : Nat) : Int) / 2 ^ x.toNat) 1) = V.int 1) = decide (x ∈ ns) := by
      rw [← Sh.bits_has hg hx]
      have h2 : Builtin.bitAnd (((Sh.bits ns : Nat) : Int) / 2 ^ x.toNat) 1 = ((Sh.bits ns : Nat) : Int) / 2 ^ x.toNat % 2 := by
        have e1 : ((Sh.bits ns : Nat) : Int) / 2 ^ x.toNat = ((Sh.bits ns / 2 ^ x.toNat : Nat) : Int) := by simp
        rw [e1, show (1 : Int) = ((1 : Nat) : Int) from rfl, and_nat, Nat.and_one_is_mod]
        simp
      rw [h2]
      exact decide_eq_decide.mpr ⟨fun z => V.int.inj z, fun z => congrArg V.int z⟩
    rw [e]
    exact q

theorem s1 : ¬ (("many" : Str) = "wanted") := by decide +kernel
theorem s2 : ¬ (("many" : Str) = "dead_ends") := by decide +kernel
theorem s3 : ¬ (("wanted" : Str) = "dead_ends") := by decide +kernel
def sflds (many : Nat) (l d : Addr) : List (Str × V) := [("many", V.int many), ("wanted", V.ref l), ("dead_ends", V.ref d)]
theorem putF_cons {f g : Str} {v x : V} {r : List (Str × V)} (h : ¬ g = f) : putF f v ((g, x) :: r) = (g, x) :: putF f v r := if_neg h
theorem sflds_put {many : Nat} {l d : Addr} : putF "dead_ends" (.ref d) (putF "wanted" (.ref l) (putF "many" (.int many) [])) = sflds many l d := by
  show putF "dead_ends" (.ref d) (putF "wanted" (.ref l) [("many", V.int many)]) = _
  rw [putF_cons s1, putF_cons s2]
  show _ :: putF "dead_ends" (.ref d) [("wanted", V.ref l)] = _
  rw [putF_cons s3]
  rfl
theorem sl_many {many : Nat} {l d : Addr} : (sflds many l d).lookup ("many" : Str) = some (.int many) := by
  rw [← sflds_put, lookup_putF, if_neg s2, lookup_putF, if_neg s1, lookup_putF, if_pos rfl]
theorem sl_wanted {many : Nat} {l d : Addr} : (sflds many l d).lookup ("wanted" : Str) = some (.ref l) := by
  rw [← sflds_put, lookup_putF, if_neg s3, lookup_putF, if_pos rfl]
theorem sl_dead {many : Nat} {l d : Addr} : (sflds many l d).lookup ("dead_ends" : Str) = some (.ref d) := by
  rw [← sflds_put, lookup_putF, if_pos rfl]
theorem sl_no {many : Nat} {l d : Addr} {m : Str} (h1 : ¬ m = "many") (h2 : ¬ m = "wanted") (h3 : ¬ m = "dead_ends") : (sflds many l d).lookup m = none := by
  rw [← sflds_put, lookup_putF, if_neg h3, lookup_putF, if_neg h2, lookup_putF, if_neg h1]
  rfl
structure Dead (many : Nat) (ws : List (List Int)) (kvs : List (Key × V)) : Prop where
  nd : (kvs.map (·.1)).Nodup
  sm : ∀ k ∈ kvs.map (·.1), ∃ n : Nat, n < 256 ∧ k = Sum.inl (n : Int)
  no : ∀ k ∈ kvs.map (·.1), ∀ bg : List Int, bg.Nodup → (∀ b ∈ bg, 0 ≤ b ∧ b < (many : Int)) → k = Sum.inl ((Sh.bits bg : Nat) : Int) → Sh.tl many ws (many - bg.length) bg = none
theorem Dead.len {many : Nat} {ws : List (List Int)} {kvs : List (Key × V)} (D : Dead many ws kvs) : kvs.length ≤ 256 := by
  have h := Sh.nodup_le (l := kvs.map (·.1)) (V := (List.range 256).map fun (i : Nat) => (Sum.inl (i : Int) : Key)) D.nd fun k hk => by
    obtain ⟨n, hn, e⟩ := D.sm k hk
    exact List.mem_map.mpr ⟨n, List.mem_range.mpr hn, e.symm⟩
  simpa using h
theorem Dead.put {many : Nat} {ws : List (List Int)} {kvs : List (Key × V)} {bg : List Int} {v : V} (D : Dead many ws kvs) (h8 : many ≤ 8) (nd : bg.Nodup) (hb : ∀ b ∈ bg, 0 ≤ b ∧ b < (many : Int)) (hn : valV kvs (Sum.inl ((Sh.bits bg : Nat) : Int)) = none)
    (ht : Sh.tl many ws (many - bg.length) bg = none) : Dead many ws (putK kvs (Sum.inl ((Sh.bits bg : Nat) : Int)) v) := by
  refine ⟨nd_putK v D.nd hn, ?_, ?_⟩
  · rw [putK_new v hn, List.map_append]
    intro k hk
    rcases List.mem_append.mp hk with hk | hk
    · exact D.sm k hk
    · refine ⟨Sh.bits bg, ?_, List.mem_singleton.mp hk⟩
      have h1 := Sh.bits_lt hb
      have h2 : 2 ^ many ≤ 2 ^ 8 := Nat.pow_le_pow_right (by decide) h8
      omega
  · rw [putK_new v hn, List.map_append]
    intro k hk bg' nd' hb' e
    rcases List.mem_append.mp hk with hk | hk
    · exact D.no k hk bg' nd' hb' e
    · have ek := List.mem_singleton.mp hk
      have e2 : Sh.bits bg' = Sh.bits bg := by
        have : (Sum.inl ((Sh.bits bg' : Nat) : Int) : Key) = Sum.inl ((Sh.bits bg : Nat) : Int) := e.symm.trans ek
        have := Sum.inl.inj this
        omega
      have hm := Sh.bits_mem (fun b h => (hb' b h).1) (fun b h => (hb b h).1) e2
      have hl : bg'.length = bg.length := (List.Perm.length_eq ((List.perm_ext_iff_of_nodup nd' nd).mpr hm))
      rw [hl, Sh.tl_congr hm]
      exact ht
structure SrAt (mg : Str → Option Value) (H : Hp) (p l d : Addr) (many : Nat) (ws : List (List Int)) (kvs : List (Key × V)) : Prop where
  ob : ∃ dx, H p = some (.ins (aCls mg "Search") dx (sflds many l d))
  wt : H l = some (.lst (ws.map fun w => V.int ((Sh.bits w : Nat) : Int)))
  dc : H d = some (.dK kvs)
  dead : Dead many ws kvs
theorem SrAt.same {H H' : Hp} {p l d : Addr} {many : Nat} {ws : List (List Int)} {kvs : List (Key × V)} (S : SrAt mg H p l d many ws kvs) (s : Same H H') : SrAt mg H' p l d many ws kvs := by
  obtain ⟨⟨dx, h1⟩, h2, h3, h4⟩ := S
  exact ⟨⟨dx, s _ _ h1⟩, s _ _ h2, s _ _ h3, h4⟩
def spSInit (mg : Str → Option Value) : Sp := fun vs H Q _ => ∃ (p dx lw : Addr) (many : Nat) (ws : List (List Int)), vs = [.ref p, .int many, .ref lw] ∧ H p = some (.ins (aCls mg "Search") dx []) ∧ WL H lw ws ∧ ws.length ≤ 100 ∧ many ≤ 8 ∧ (∀ w ∈ ws, Sh.Good many w) ∧
  ∀ l d H', SrAt mg H' p l d many ws [] → H l = none → H d = none → (∀ b o, H b = some o → b ≠ p → H' b = some o) → Q .non H'
theorem ok_Search (T : Txt K mg) : CalK P w K mg base 2 (aCls mg "Search") ["self", "many", "wishes"] (spSInit mg) := by
  have C_bits_of := ok_bits_of (P := P) (w := w) (base := base) T
  refine T.d_Search___init__.ok sc_Search___init__ (fun vs H Q E h => ?_) (fun f cdv A outer s H vs Q E hr h => ?_)
  · obtain ⟨p, dx, lw, m, ws, rfl, _⟩ := h
    rfl
  · obtain ⟨p, dx, lw, m, ws, rfl, hp, ⟨as, hA, hP⟩, hlen, h8, hg, q⟩ := h
    refine ⟨_, (pss_cons (ps_fld (pv 0) (pv 1) rfl) (pss_cons (ps_fld (pv 0) (pe_comp (own := own_Search___init___c0) (cap := cap_Search___init___c0) rfl rfl bs_Search___init___c0 (k_list (K := K) rfl (pv 2)) (fun _ _ _ _ => (pg_name (i := 0) nd_Search___init___c0 rfl (Or.inl rfl) (Or.inr rfl))) (fun _ _ _ _ => pts_nil) (fun _ _ _ _ => (pe_cal C_bits_of (hr.mono (by first | decide | omega)) rfl (pa_cons (pv 0) pa_nil)))) rfl) (pss_one (ps_fld (pv 0) pe_dnewK rfl)))), ?_⟩
    refine ⟨_, rfl, _, rfl, p, _, dx, [], rfl, hp, T.cl_Search, T.n_Search_many, (by show 0 < 1000; decide), ?_⟩
    have npl : lw ≠ p := ne_of hA hp (by intro z; cases z)
    have hpa : ∀ b x, b ∈ as → H b = some (.lst x) → b ≠ p := fun b x _ hb => ne_of hb hp (by intro z; cases z)
    generalize e1 : upd H p (.ins (aCls mg "Search") dx (putF "many" (V.int m) [])) = H1
    have k1 : ∀ b o, H b = some o → b ≠ p → H1 b = some o := fun b o hb hn => by rw [← e1, upd_ne hn]; exact hb
    have hp1 : H1 p = some (.ins (aCls mg "Search") dx (putF "many" (V.int m) [])) := by rw [← e1]; exact upd_same
    have n1 : ∀ b, H1 b = none → H b = none := fun b hb => by
      by_cases e : b = p
      · rw [e, hp1] at hb; cases hb
      · rw [← e1, upd_ne e] at hb; exact hb
    have hA1 := k1 _ _ hA npl
    refine ⟨_, rfl, lw, rfl, ⟨_, SqL.of hA1⟩, fun l fl => ?_⟩
    refine c_list (K := K) (a := lw) (xs := as.map V.ref) (fun i ys σ H' => ∃ u, σ = [u] ∧ Same H1 H' ∧ H' l = some (.lst ys) ∧ ys = (ws.take i).map fun w => V.int ((Sh.bits w : Nat) : Int))
      ⟨none, rfl, Same.new fl, upd_same, rfl⟩ (fun i ys σ H' _ ⟨_, _, s5, _⟩ => SqL.of (s5 _ _ hA1)) ?_ ?_
    · rintro i x ys σ H' hi ⟨u, rfl, s5, hL, rfl⟩
      rw [List.getElem?_map] at hi
      cases e : as[i]? with
      | none => rw [e] at hi; cases hi
      | some b =>
        rw [e] at hi
        obtain rfl : V.ref b = x := Option.some.inj hi
        obtain ⟨w', h1', h2'⟩ := paired_get1 hP e
        have gw := hg w' (List.mem_of_getElem? h1')
        refine ⟨_, rfl, b, w', rfl, SqL.of (s5 _ _ (k1 _ _ h2' (hpa b _ (List.mem_of_getElem? e) h2'))), fun x hx => ⟨(gw.1 x hx).1, by have := (gw.1 x hx).2; omega⟩, hL, ?_, _, rfl, s5.put fl, upd_same, ?_⟩
        · rw [List.length_map]
          have := List.length_take_le' i ws
          exact small1000 (by omega)
        · rw [List.take_add_one, h1', List.map_append]
          rfl
    · rintro ys σ H' ⟨u, rfl, s5, hL, rfl⟩
      rw [List.length_map, Paired.length hP, List.take_length] at hL
      have hp2 := s5 _ _ hp1
      refine ⟨_, rfl, p, _, dx, _, rfl, hp2, T.cl_Search, T.n_Search_wanted, (by show 1 < 1000; decide), ?_⟩
      intro d fd
      have npl2 : l ≠ p := ne_of hL hp2 (by intro z; cases z)
      have ndl : d ≠ l := fun e => by
        rw [e, upd_ne npl2, hL] at fd
        cases fd
      have ndp : d ≠ p := fun e => by
        rw [e, upd_same] at fd
        cases fd
      refine ⟨_, rfl, p, _, dx, _, rfl, (by rw [upd_ne ndp.symm]; exact upd_same), T.cl_Search, T.n_Search_dead_ends, ?_, ?_⟩
      · have := length_putF "wanted" (V.ref l) (putF "many" (V.int m) [])
        have h0 : (putF "many" (V.int m) []).length = 1 := rfl
        omega
      · rw [upd_ne ndp] at fd
        refine q l d _ ⟨⟨dx, ?_⟩, ?_, ?_, ⟨List.nodup_nil, fun k hk => by simp at hk, fun k hk => by simp at hk⟩⟩ (n1 _ fl) (n1 _ (s5.free fd)) fun b o hb hn => ?_
        · rw [upd_same, sflds_put]
        · rw [upd_ne npl2, upd_ne ndl.symm, upd_ne npl2]
          exact hL
        · rw [upd_ne ndp, upd_same]
        · have nbd : b ≠ d := fun e => by rw [← e, s5 _ _ (k1 _ _ hb hn)] at fd; cases fd
          rw [upd_ne hn, upd_ne nbd, upd_ne hn]
          exact s5 _ _ (k1 _ _ hb hn)

def spNext (K : PySem.W.Frag) (mg : Str → Option Value) : Sp := fun vs H Q _ => ∃ (p l d b : Addr) (many : Nat) (ws : List (List Int)) (kvs : List (Key × V)) (bg : List Int), vs = [.ref p, .ref b] ∧ SrAt mg H p l d many ws kvs ∧ SqL K H b (bg.map V.int) ∧ many ≤ 8 ∧ (∀ w ∈ ws, Sh.Good many w) ∧
  (∀ x ∈ bg, 0 ≤ x ∧ x < (many : Int)) ∧ ∀ r H', H r = none → Same H H' → H' r = some (.lst ((Sh.nxt many ws bg).map V.int)) → Q (.ref r) H'
theorem ok_Search_next_books (T : Txt K mg) : CalM P w K mg base 2 (aCls mg "Search") "next_books" ["self", "begun"] (spNext K mg) := by
  have C_bits_of := ok_bits_of (P := P) (w := w) (base := base) T
  have C_has := ok_has (P := P) (w := w) (base := base) T
  refine T.d_Search_next_books.ok sc_Search_next_books (fun vs H Q E h => ?_) (fun f cdv A outer s H vs Q E hr h => ?_)
  · obtain ⟨p, l, d, b, m, ws, kvs, bg, rfl, _⟩ := h
    rfl
  · obtain ⟨p, l, d, b, m, ws, kvs, bg, rfl, S, hB, h8, hg, hb, q⟩ := h
    obtain ⟨⟨dx, hp⟩, hl, hd, hD⟩ := id S
    have hb0 : ∀ x ∈ bg, 0 ≤ x := fun x hx => (hb x hx).1
    refine ⟨_, (pss_cons (ps_set (i := 2) sc_Search_next_books.nd rfl (Or.inr rfl) (pe_cal C_bits_of (hr.mono (by first | decide | omega)) rfl (pa_cons (pv 1) pa_nil))) (pss_cons (ps_comp (i := 3) (own := own_Search_next_books_c1) (cap := cap_Search_next_books_c1) rfl rfl bs_Search_next_books_c1 sc_Search_next_books.nd rfl rfl rfl (pi_range1 rfl T.b_range (pa_cons (pe_fld (pv 0) rfl) pa_nil)) (fun _ _ _ _ => (pg_name (i := 0) nd_Search_next_books_c1 rfl (Or.inl rfl) (Or.inr rfl))) (fun _ _ _ _ => (pts_one (pt_not (pt_val (pe_cal C_has (hr.mono (by first | decide | omega)) rfl (pa_cons (pv 1) (pa_cons (pv 0) pa_nil))))))) (fun _ _ _ _ => (pv 0))) (pss_cons (ps_for PassesOwn.never rfl (k_list (K := K) rfl (pe_fld (pv 0) rfl)) (pg_name (i := 4) sc_Search_next_books.nd rfl (Or.inr rfl)) (pss_one (ps_if (pt_cmpR (k_notIn (K := K) rfl) (pe_op op_and (pv 2) (pv 4)) (pe_tup (pa_cons pe_int (pa_cons (pv 4) pa_nil))) rfl) (pss_one (ps_comp (i := 3) (own := own_Search_next_books_c0) (cap := cap_Search_next_books_c0) rfl rfl bs_Search_next_books_c0 sc_Search_next_books.nd rfl rfl rfl (k_list (K := K) rfl (pv 3)) (fun _ _ _ _ => (pg_name (i := 0) nd_Search_next_books_c0 rfl (Or.inl rfl) (Or.inr rfl))) (fun _ _ _ _ => (pts_one (pt_val (pe_cal C_has (hr.mono (by first | decide | omega)) rfl (pa_cons (pv 1) (pa_cons (pv 0) pa_nil)))))) (fun _ _ _ _ => (pv 0)))) pss_nil))) (pss_one (ps_ret (pv 3)))))), ?_⟩
    refine ⟨_, rfl, b, bg, rfl, hB, fun x hx => ⟨(hb x hx).1, by have := (hb x hx).2; omega⟩, ?_⟩
    refine ⟨_, rfl, p, _, dx, _, _, rfl, hp, T.cl_Search, T.n_Search_many, sl_many, m, rfl, by omega, by omega, fun r fr => ?_⟩
    refine c_range (lo := 0) (n := m) (fun i ys σ H' => ∃ u, σ = [u, some (.int ((Sh.bits bg : Nat) : Int))] ∧ Same H H' ∧ H' r = some (.lst ys) ∧ ys = (((Sh.rangeI i).filter fun x => decide (x ∉ bg)).map V.int))
      ⟨none, rfl, Same.new fr, upd_same, rfl⟩ ?_ ?_
    · rintro i ys σ H' hi ⟨u, rfl, s5, hL, rfl⟩
      refine ⟨_, rfl, _, rfl, bg, _, rfl, hb0, by omega, _, rfl, ?_⟩
      have e0 : (0 : Int) + (i : Int) = (i : Int) := by omega
      rw [e0]
      have es : (Sh.rangeI (i + 1)).filter (fun x => decide (x ∉ bg)) = (Sh.rangeI i).filter (fun x => decide (x ∉ bg)) ++ (if (i : Int) ∉ bg then [(i : Int)] else []) := by
        rw [Sh.rangeI_succ, List.filter_append]
        congr 1
        by_cases h : (i : Int) ∈ bg
        · simp [h]
        · simp [h]
      by_cases h : (i : Int) ∈ bg
      · rw [decide_eq_true h]
        refine iteF ?_
        refine ⟨_, rfl, s5, hL, ?_⟩
        rw [es, if_neg (by simpa using h), List.append_nil]
      · rw [decide_eq_false h]
        refine iteT ?_
        refine ⟨_, rfl, hL, ?_, _, rfl, s5.put fr, upd_same, ?_⟩
        · rw [List.length_map]
          have := List.length_filter_le (fun x => decide (x ∉ bg)) (Sh.rangeI i)
          rw [Sh.rangeI_len] at this
          exact small1000 (by omega)
        · rw [es, if_pos h, List.map_append]
          rfl
    · rintro ys σ H' ⟨u, rfl, s5, hL, rfl⟩
      have hl5 := s5 _ _ hl
      have hp5 := s5 _ _ hp
      refine ⟨_, rfl, p, _, dx, _, _, rfl, hp5, T.cl_Search, T.n_Search_wanted, sl_wanted, l, rfl, ⟨_, SqL.of hl5⟩, for_list (K := K) (a := l) (xs := ws.map fun w => V.int ((Sh.bits w : Nat) : Int))
        (fun i σ H2 => ∃ (r2 : Addr) (v : Option V), σ = [some (.ref p), some (.ref b), some (.int ((Sh.bits bg : Nat) : Int)), some (.ref r2), v] ∧ Same H H2 ∧ H r2 = none ∧ H2 r2 = some (.lst ((Sh.nxt m (ws.take i) bg).map V.int)))
        ⟨r, none, rfl, s5, fr, ?_⟩ (fun i σ H2 _ ⟨_, _, _, s6, _⟩ => SqL.of (s6 _ _ hl)) ?_ ?_⟩
      · rw [hL]
        unfold Sh.nxt Sh.okB
        simp
      · rintro i x σ H2 hi ⟨r2, v, rfl, s6, fr2, hL2⟩
        rw [List.getElem?_map] at hi
        cases e : ws[i]? with
        | none => rw [e] at hi; cases hi
        | some wi =>
          rw [e] at hi
          obtain rfl : V.int ((Sh.bits wi : Nat) : Int) = x := Option.some.inj hi
          have gw := hg wi (List.mem_of_getElem? e)
          have gw0 : ∀ x ∈ wi, 0 ≤ x := fun x hx => (gw.1 x hx).1
          have et : ws.take (i + 1) = ws.take i ++ [wi] := by rw [List.take_add_one, e]; rfl
          have en : Sh.nxt m (ws.take (i + 1)) bg = (Sh.nxt m (ws.take i) bg).filter fun b => decide (b ∈ wi) || (wi.all fun x => decide (x ∉ bg)) || (wi.all fun x => decide (x ∈ bg)) := by
            rw [et]
            unfold Sh.nxt Sh.okB
            rw [List.filter_filter]
            congr 1
            funext b
            rw [List.all_append]
            simp only [List.all_cons, List.all_nil, Bool.and_true]
            cases decide (b ∉ bg) <;> simp [Bool.and_comm]
          refine ⟨_, rfl, _, rfl, _, _, rfl, rfl, _, rfl, (by show 2 ≤ sizeLine; decide), fun t ft => ?_⟩
          have s7 : Same H (upd H2 t (.tup [.int 0, .int ((Sh.bits wi : Nat) : Int)])) := s6.trans (Same.new ft)
          have nrt : r2 ≠ t := fun e => by rw [← e, hL2] at ft; cases ft
          have hL3 : upd H2 t (.tup [.int 0, .int ((Sh.bits wi : Nat) : Int)]) r2 = some (.lst ((Sh.nxt m (ws.take i) bg).map V.int)) := by rw [upd_ne nrt]; exact hL2
          refine ⟨t, _, rfl, .inr (SqT.of upd_same), rfl, rfl, _, rfl, ?_⟩
          generalize upd H2 t (.tup [.int 0, .int ((Sh.bits wi : Nat) : Int)]) = H3 at s7 hL3 ⊢
          have ei : inV (V.int (Builtin.bitAnd ((Sh.bits bg : Nat) : Int) ((Sh.bits wi : Nat) : Int))) [V.int 0, V.int ((Sh.bits wi : Nat) : Int)] = ((wi.all fun x => decide (x ∉ bg)) || (wi.all fun x => decide (x ∈ bg))) := by
            have := inV_int (Builtin.bitAnd ((Sh.bits bg : Nat) : Int) ((Sh.bits wi : Nat) : Int)) [0, ((Sh.bits wi : Nat) : Int)]
            refine Eq.trans this ?_
            rw [and_nat, Bool.eq_iff_iff, decide_eq_true_iff, Bool.or_eq_true, List.all_eq_true, List.all_eq_true]
            simp only [decide_eq_true_iff]
            rw [← Sh.bits_and0 hb0 gw0, ← Sh.bits_andW hb0 gw0]
            simp only [List.mem_cons, List.not_mem_nil, or_false]
            constructor
            · rintro (h | h)
              · exact .inl (by omega)
              · exact .inr (by omega)
            · rintro (h | h)
              · exact .inl (by omega)
              · exact .inr (by omega)
          show if (!inV _ _) = true then _ else _
          rw [ei]
          cases hc : ((wi.all fun x => decide (x ∉ bg)) || (wi.all fun x => decide (x ∈ bg))) with
          | true =>
            refine iteF ?_
            refine ⟨r2, _, rfl, s7, fr2, ?_⟩
            rw [hL3, en]
            congr 3
            rw [List.filter_eq_self.mpr]
            intro x _
            rw [Bool.or_assoc, hc, Bool.or_true]
          | false =>
            refine iteT ?_
            refine ⟨_, rfl, r2, rfl, ⟨_, SqL.of hL3⟩, fun r3 fr3 => ?_⟩
            have n23 : r2 ≠ r3 := fun e => by rw [← e, hL3] at fr3; cases fr3
            refine c_list (K := K) (a := r2) (xs := (Sh.nxt m (ws.take i) bg).map V.int) (fun j ys σ H' => ∃ u, σ = [u, some (.int ((Sh.bits wi : Nat) : Int))] ∧ Same H H' ∧ H' r2 = some (.lst ((Sh.nxt m (ws.take i) bg).map V.int)) ∧ H' r3 = some (.lst ys) ∧ ys = ((((Sh.nxt m (ws.take i) bg).take j).filter fun x => decide (x ∈ wi)).map V.int))
              ⟨none, rfl, s7.trans (Same.new fr3), by rw [upd_ne n23]; exact hL3, upd_same, rfl⟩ (fun j ys σ H' _ ⟨_, _, _, h4, _⟩ => SqL.of h4) ?_ ?_
            · rintro j x ys σ H' hj ⟨u, rfl, s8, hr2, hr3, rfl⟩
              rw [List.getElem?_map] at hj
              cases e' : (Sh.nxt m (ws.take i) bg)[j]? with
              | none => rw [e'] at hj; cases hj
              | some z =>
                rw [e'] at hj
                obtain rfl : V.int z = x := Option.some.inj hj
                have hz := (Sh.mem_nxt.mp (List.mem_of_getElem? e')).1
                refine ⟨_, rfl, _, rfl, wi, z, rfl, gw0, hz.1, _, rfl, ?_⟩
                have es : ((Sh.nxt m (ws.take i) bg).take (j + 1)).filter (fun x => decide (x ∈ wi)) = ((Sh.nxt m (ws.take i) bg).take j).filter (fun x => decide (x ∈ wi)) ++ (if z ∈ wi then [z] else []) := by
                  rw [List.take_add_one, e', List.filter_append]
                  congr 1
                  by_cases h : z ∈ wi
                  · simp [h]
                  · simp [h]
                by_cases h : z ∈ wi
                · rw [decide_eq_true h]
                  refine iteT ?_
                  refine ⟨_, rfl, hr3, ?_, _, rfl, s8.put (s7.free fr3), by rw [upd_ne n23]; exact hr2, upd_same, ?_⟩
                  · rw [List.length_map]
                    have h1 := List.length_filter_le (fun x => decide (x ∈ wi)) ((Sh.nxt m (ws.take i) bg).take j)
                    have h2 := List.length_take_le' j (Sh.nxt m (ws.take i) bg)
                    have h3 := Sh.nxt_len m (ws.take i) bg
                    exact small1000 (by omega)
                  · rw [es, if_pos h, List.map_append]
                    rfl
                · rw [decide_eq_false h]
                  refine iteF ?_
                  refine ⟨_, rfl, s8, hr2, hr3, ?_⟩
                  rw [es, if_neg h, List.append_nil]
            · rintro ys σ H' ⟨u, rfl, s8, hr2, hr3, rfl⟩
              rw [List.length_map, List.take_length] at hr3
              refine ⟨r3, _, rfl, s8, s7.free fr3, ?_⟩
              rw [hr3, en]
              congr 3
              refine List.filter_congr fun x _ => ?_
              rw [Bool.or_assoc, hc, Bool.or_false]
      · rintro σ H2 ⟨r2, v, rfl, s6, fr2, hL2⟩
        rw [List.length_map, List.take_length] at hL2
        exact ⟨_, rfl, q r2 H2 fr2 s6 hL2⟩

end
end K08
namespace K08
open PySem L2
set_option maxRecDepth 100000
set_option maxHeartbeats 4000000
section
variable {P : Program} {w : World} {K : PySem.W.Frag} {mg : Str → Option Value} {base : Heap}
def Rest (H H' : Hp) (d : Addr) : Prop := ∀ c o, H c = some o → c ≠ d → H' c = some o
theorem Rest.of {H H' : Hp} {d : Addr} (s : Same H H') : Rest H H' d := fun c o h _ => s c o h
theorem Rest.trans {H H1 H2 : Hp} {d : Addr} (a : Rest H H1 d) (b : Rest H1 H2 d) : Rest H H2 d := fun c o h n => b c o (a c o h n) n
theorem Rest.free {H H' : Hp} {d r : Addr} (a : Rest H H' d) (hn : r ≠ d) (h : H' r = none) : H r = none := by
  cases q : H r with
  | none => rfl
  | some o =>
    rw [a r o q hn] at h
    cases h
def ResW (H H' : Hp) (bg : List Int) : Option (List Int) → V → Prop
  | none, v => v = .non
  | some t, v => ∃ r, v = .ref r ∧ H' r = some (.lst ((bg ++ t).map V.int)) ∧ H r = none
def Res (H H' : Hp) (n : Nat) (b : Addr) (bg : List Int) : Option (List Int) → V → Prop
  | none, v => v = .non
  | some t, v => ∃ r, v = .ref r ∧ H' r = some (.lst ((bg ++ t).map V.int)) ∧ (n = 0 ∧ r = b ∨ H r = none)
def fnd (many : Nat) (ws : List (List Int)) (n : Nat) (bg : List Int) : Int → Option (List Int) := fun b => (Sh.tl many ws n (bg ++ [b])).map (b :: ·)
def spCompl (mg : Str → Option Value) (n : Nat) : Sp := fun vs H Q _ => ∃ (p l d b : Addr) (many : Nat) (ws : List (List Int)) (kvs : List (Key × V)) (bg : List Int), vs = [.ref p, .ref b] ∧ SrAt mg H p l d many ws kvs ∧ H b = some (.lst (bg.map V.int)) ∧ many ≤ 8 ∧ (∀ w ∈ ws, Sh.Good many w) ∧
  bg.Nodup ∧ (∀ x ∈ bg, 0 ≤ x ∧ x < (many : Int)) ∧ bg.length + n = many ∧ ∀ v kvs' H', Rest H H' d → SrAt mg H' p l d many ws kvs' → Res H H' n b bg (Sh.tl many ws n bg) v → Q v H'
def spComplW (mg : Str → Option Value) (n : Nat) : Sp := fun vs H Q _ => ∃ (p l d b k : Addr) (many : Nat) (ws : List (List Int)) (kvs : List (Key × V)) (bg bs : List Int), vs = [.ref p, .ref b, .ref k] ∧ SrAt mg H p l d many ws kvs ∧ H b = some (.lst (bg.map V.int)) ∧ H k = some (.lst (bs.map V.int)) ∧ many ≤ 8 ∧ (∀ w ∈ ws, Sh.Good many w) ∧
  bg.Nodup ∧ (∀ x ∈ bg, 0 ≤ x ∧ x < (many : Int)) ∧ (∀ x ∈ bs, (0 ≤ x ∧ x < (many : Int)) ∧ x ∉ bg) ∧ bg.length + n + 1 = many ∧ ∀ v kvs' H', Rest H H' d → SrAt mg H' p l d many ws kvs' → ResW H H' bg (bs.findSome? (fnd many ws n bg)) v → Q v H'
def spCW (mg : Str → Option Value) : Nat → Sp
  | 0 => fun _ _ _ _ => False
  | n + 1 => spComplW mg n
theorem ok_completed_step (T : Txt K mg) {n k : Nat} (hk : 2 ≤ k) (C_Search_completed_with : CalM P w K mg base k (aCls mg "Search") "completed_with" ["self", "begun", "books"] (spCW mg n)) : CalM P w K mg base (k + 1) (aCls mg "Search") "completed" ["self", "begun"] (spCompl mg n) := by
  have C_bits_of := ok_bits_of (P := P) (w := w) (base := base) T
  have C_Search_next_books := ok_Search_next_books (P := P) (w := w) (base := base) T
  refine T.d_Search_completed.ok sc_Search_completed (fun vs H Q E h => ?_) (fun f cdv A outer s H vs Q E hr h => ?_)
  · obtain ⟨p, l, d, b, m, ws, kvs, bg, rfl, _⟩ := h
    rfl
  · obtain ⟨p, l, d, b, m, ws, kvs, bg, rfl, S, hB, h8, hg, nd, hb, hl, q⟩ := h
    obtain ⟨⟨dx, hp⟩, hw, hd, hD⟩ := id S
    have hu := hu_of hr
    refine ⟨_, (pss_cons (ps_if (pt_cmpR op_ge (pe_callB (k_len (K := K) rfl) rfl T.b_len PySem.boot_len (pa_cons (pv 1) pa_nil)) (pe_fld (pv 0) rfl) (nomark _)) (pss_one (ps_ret (pv 1))) pss_nil) (pss_cons (ps_set (i := 2) sc_Search_completed.nd rfl (Or.inl rfl) (pe_cal C_bits_of (hr.mono (by first | decide | omega)) rfl (pa_cons (pv 1) pa_nil))) (pss_cons (ps_if (pt_cmp (pc_din hu (pv 2) (pe_fld (pv 0) rfl))) (pss_one (ps_ret pe_non)) pss_nil) (pss_cons (ps_set (i := 3) sc_Search_completed.nd rfl (Or.inl rfl) (pe_calm (pv 0) T.cl_Search C_Search_completed_with (hr.mono (by first | decide | omega)) (pa_cons (pv 1) (pa_cons (pe_calm (pv 0) T.cl_Search C_Search_next_books (hr.mono (by first | decide | omega)) (pa_cons (pv 1) pa_nil)) pa_nil)))) (pss_cons (ps_if (pt_cmpR op_isN (pv 3) pe_non (nomark _)) (pss_one (ps_dput hu (pe_fld (pv 0) rfl) (pv 2) pe_bl rfl)) pss_nil) (pss_one (ps_ret (pv 3)))))))), ?_⟩
    refine ⟨_, rfl, b, _, rfl, .inl (SqL.of hB), _, rfl, p, _, dx, _, _, rfl, hp, T.cl_Search, T.n_Search_many, sl_many, _, _, rfl, rfl, _, rfl, ?_⟩
    rw [List.length_map]
    refine ite2 (fun hc => ?_) (fun hc => ?_)
    · have h0 : n = 0 := by
        have := of_decide_eq_true hc
        omega
      subst h0
      exact ⟨_, rfl, q _ kvs H (Rest.of (Same.refl H)) S ⟨b, rfl, by rw [List.append_nil]; exact hB, .inl ⟨rfl, rfl⟩⟩⟩
    · cases n with
      | zero => exact absurd (decide_eq_true (by omega)) hc
      | succ n =>
        refine ⟨_, rfl, b, bg, rfl, SqL.of hB, fun x hx => ⟨(hb x hx).1, by have := (hb x hx).2; omega⟩, ?_⟩
        refine ⟨_, rfl, _, rfl, p, _, dx, _, _, rfl, hp, T.cl_Search, T.n_Search_dead_ends, sl_dead, d, _, rfl, DGet.k (k := Sum.inl ((Sh.bits bg : Nat) : Int)) hd, _, rfl, ?_⟩
        cases e : valV kvs (Sum.inl ((Sh.bits bg : Nat) : Int) : Key) with
        | some v =>
          refine iteT ?_
          have ht := hD.no _ (valV_in e) bg nd hb rfl
          have e2 : m - bg.length = n + 1 := by omega
          rw [e2] at ht
          refine q _ kvs H (Rest.of (Same.refl H)) S ?_
          rw [ht]
          rfl
        | none =>
          refine iteF ?_
          refine ⟨_, rfl, p, dx, _, rfl, hp, sl_no (by decide +kernel) (by decide +kernel) (by decide +kernel), _, rfl, _, rfl, p, dx, _, rfl, hp, sl_no (by decide +kernel) (by decide +kernel) (by decide +kernel), _, rfl,
            p, l, d, b, m, ws, kvs, bg, rfl, S, SqL.of hB, h8, hg, hb, fun r H1 fr s1 hr1 => ?_⟩
          refine ⟨p, l, d, b, r, m, ws, kvs, bg, _, rfl, S.same s1, s1 _ _ hB, hr1, h8, hg, nd, hb, fun x hx => ⟨(Sh.mem_nxt.mp hx).1, (Sh.mem_nxt.mp hx).2.1⟩, by omega, fun v kvs' H2 rs S2 res => ?_⟩
          have et : (Sh.nxt m ws bg).findSome? (fnd m ws n bg) = Sh.tl m ws (n + 1) bg := rfl
          rw [et] at res
          refine ⟨_, rfl, rfl, _, rfl, ?_⟩
          have rs0 : Rest H H2 d := (Rest.of s1).trans rs
          cases ho : Sh.tl m ws (n + 1) bg with
          | none =>
            rw [ho] at res
            have ev : v = .non := res
            subst ev
            obtain ⟨⟨dx2, hp2⟩, hw2, hd2, hD2⟩ := id S2
            refine iteT ?_
            have npd : p ≠ d := ne_of hp2 hd2 (by intro z; cases z)
            have nld : l ≠ d := ne_of hw2 hd2 (by intro z; cases z)
            refine ⟨_, rfl, p, _, dx2, _, _, rfl, hp2, T.cl_Search, T.n_Search_dead_ends, sl_dead, _, rfl, d, _, rfl, DPut.k (k := Sum.inl ((Sh.bits bg : Nat) : Int)) hd2 (small1000 (by have := hD2.len; omega)), ?_⟩
            have hm : m - bg.length = n + 1 := by omega
            have hD3 : Dead m ws (putK kvs' (Sum.inl ((Sh.bits bg : Nat) : Int)) (V.bl true)) := by
              cases e3 : valV kvs' (Sum.inl ((Sh.bits bg : Nat) : Int) : Key) with
              | none => exact hD2.put h8 nd hb e3 (by rw [hm]; exact ho)
              | some v3 =>
                have ek : (putK kvs' (Sum.inl ((Sh.bits bg : Nat) : Int) : Key) (V.bl true)).map (·.1) = kvs'.map (·.1) := by
                  unfold putK
                  rw [valV_any, e3, if_pos (show (some v3).isSome = true from rfl), List.map_map]
                  refine List.map_congr_left fun a _ => ?_
                  show (if a.1 = _ then (a.1, _) else a).1 = a.1
                  split <;> rfl
                exact ⟨by rw [ek]; exact hD2.nd, by rw [ek]; exact hD2.sm, by rw [ek]; exact hD2.no⟩
            refine ⟨_, rfl, q _ _ _ (rs0.trans fun c o hc hn => by rw [upd_ne hn]; exact hc) ⟨⟨dx2, by rw [upd_ne npd]; exact hp2⟩, by rw [upd_ne nld]; exact hw2, upd_same, hD3⟩ ?_⟩
            rw [ho]
            rfl
          | some t =>
            rw [ho] at res
            obtain ⟨r2, rfl, hr2, fr2⟩ := res
            refine iteF ?_
            refine ⟨_, rfl, q _ kvs' H2 rs0 S2 ?_⟩
            rw [ho]
            exact ⟨r2, rfl, hr2, .inr (s1.free fr2)⟩
theorem ok_completed_with_fn (T : Txt K mg) {n k : Nat} {f : Addr} {fd : FuncData} (C_Search_completed : CalM P w K mg base k (aCls mg "Search") "completed" ["self", "begun"] (spCompl mg n)) (F : Fun K "completed_with" "Search.completed_with" s_Search_completed_with f fd) : FnOk P w K mg base CX0 (k + 1) f fd ["self", "begun", "books"] (spComplW mg n) := by
  refine F.ok sc_Search_completed_with (fun vs H Q E h => ?_) (fun cdv A outer s H vs Q E hr h => ?_)
  · obtain ⟨p, l, d, b, k, m, ws, kvs, bg, bs, rfl, _⟩ := h
    rfl
  · obtain ⟨p, l, d, b, k, m, ws, kvs, bg, bs, rfl, S, hB, hK, h8, hg, nd, hb, hs, hl, q⟩ := h
    refine ⟨_, (pss_cons (ps_for PassesOwn.never rfl (k_list (K := K) rfl (pv 2)) (pg_name (i := 3) sc_Search_completed_with.nd rfl (Or.inl rfl)) (pss_cons (ps_set (i := 4) sc_Search_completed_with.nd rfl (Or.inl rfl) (pe_calm (pv 0) T.cl_Search C_Search_completed (hr.mono (by first | decide | omega)) (pa_cons (pe_op op_cat (pv 1) (pe_lst (pa_cons (pv 3) pa_nil))) pa_nil))) (pss_one (ps_if (pt_cmpR op_notN (pv 4) pe_non (nomark _)) (pss_one (ps_ret (pv 4))) pss_nil)))) (pss_one (ps_ret pe_non))), ?_⟩
    have hd := S.dc
    have nkd : k ≠ d := ne_of hK hd (by intro z; cases z)
    have nbd : b ≠ d := ne_of hB hd (by intro z; cases z)
    refine ⟨_, rfl, k, rfl, ⟨_, SqL.of hK⟩, for_list (K := K) (a := k) (xs := bs.map V.int) (fun i σ H' => ∃ (kvs' : List (Key × V)) (u v : Option V), σ = [some (.ref p), some (.ref b), some (.ref k), u, v] ∧ Rest H H' d ∧ SrAt mg H' p l d m ws kvs' ∧ (bs.take i).findSome? (fnd m ws n bg) = none)
      ⟨kvs, none, none, rfl, Rest.of (Same.refl H), S, rfl⟩ (fun i σ H' _ ⟨_, _, _, _, rs, _⟩ => SqL.of (rs _ _ hK nkd)) ?_ ?_⟩
    · rintro i x σ H' hi ⟨kvs', u, v, rfl, rs, S', hf⟩
      rw [List.getElem?_map] at hi
      cases e : bs[i]? with
      | none => rw [e] at hi; cases hi
      | some z =>
        rw [e] at hi
        obtain rfl : V.int z = x := Option.some.inj hi
        obtain ⟨hz, hzn⟩ := hs z (List.mem_of_getElem? e)
        obtain ⟨⟨dx, hp⟩, hw, hd', hD⟩ := id S'
        refine ⟨_, rfl, p, dx, _, rfl, hp, sl_no (by decide +kernel) (by decide +kernel) (by decide +kernel), _, rfl, _, rfl, (by show 1 ≤ sizeLine; decide), fun l1 f1 => ?_⟩
        have hB1 := rs _ _ hB nbd
        have n1 : b ≠ l1 := fun e => by rw [← e, hB1] at f1; cases f1
        refine ⟨b, l1, _, _, rfl, rfl, (by rw [upd_ne n1]; exact hB1), upd_same, ?_, fun l2 f2 => ?_⟩
        · rw [List.length_map]
          have : bg.length + 1 ≤ 1000 := by omega
          exact Nat.le_of_lt (small1000 this)
        · have s2 : Same H' (upd (upd H' l1 (.lst [V.int z])) l2 (.lst (bg.map V.int ++ [V.int z]))) := (Same.new f1).trans (Same.new f2)
          have e3 : bg.map V.int ++ [V.int z] = (bg ++ [z]).map V.int := by rw [List.map_append]; rfl
          have hl2 : (upd (upd H' l1 (.lst [V.int z])) l2 (.lst (bg.map V.int ++ [V.int z]))) l2 = some (.lst ((bg ++ [z]).map V.int)) := by rw [upd_same, e3]
          have fl2 : H' l2 = none := (Same.new f1).free f2
          generalize upd (upd H' l1 (.lst [V.int z])) l2 (.lst (bg.map V.int ++ [V.int z])) = H3 at s2 hl2 ⊢
          refine ⟨p, l, d, l2, m, ws, kvs', bg ++ [z], rfl, S'.same s2, hl2, h8, hg, ?_, ?_, ?_, fun v' kvs2 H4 rs4 S4 res => ?_⟩
          · exact nd_snoc nd hzn
          · intro y hy
            rcases List.mem_append.mp hy with h | h
            · exact hb y h
            · rw [List.mem_singleton.mp h]; exact hz
          · rw [List.length_append]
            show bg.length + 1 + n = m
            omega
          · refine ⟨_, rfl, rfl, _, rfl, ?_⟩
            have rs5 : Rest H H4 d := rs.trans ((Rest.of s2).trans rs4)
            have hfz : fnd m ws n bg z = (Sh.tl m ws n (bg ++ [z])).map (z :: ·) := rfl
            cases ho : Sh.tl m ws n (bg ++ [z]) with
            | none =>
              rw [ho] at res hfz
              have ev : v' = .non := res
              subst ev
              refine iteF ?_
              exact ⟨kvs2, _, _, rfl, rs5, S4, findSome_take e hf hfz⟩
            | some t =>
              rw [ho] at res hfz
              obtain ⟨r, rfl, hr2, fr2⟩ := res
              refine iteT ?_
              refine ⟨_, rfl, q _ kvs2 H4 rs5 S4 ?_⟩
              rw [findSome_at e hf hfz]
              refine ⟨r, rfl, ?_, ?_⟩
              · rw [hr2, List.append_assoc]
                rfl
              · have fH : H' r = none := by
                  rcases fr2 with ⟨_, rfl⟩ | fr2
                  · exact fl2
                  · exact s2.free fr2
                refine rs.free (fun e => ?_) fH
                rw [e, hd'] at fH
                cases fH
    · rintro σ H' ⟨kvs', u, v, rfl, rs, S', hf⟩
      rw [List.length_map, List.take_length] at hf
      refine q _ kvs' H' rs S' ?_
      rw [hf]
      rfl
theorem ok_completed_with_step (T : Txt K mg) {n k : Nat} (C_Search_completed : CalM P w K mg base k (aCls mg "Search") "completed" ["self", "begun"] (spCompl mg n)) : CalM P w K mg base (k + 1) (aCls mg "Search") "completed_with" ["self", "begun", "books"] (spComplW mg n) := by
  obtain ⟨f, fd, F, hm, hb⟩ := T.d_Search_completed_with.ex
  exact ⟨f, fd, ok_completed_with_fn T C_Search_completed F, hm, hb⟩
theorem ok_completed (T : Txt K mg) : ∀ n : Nat, CalM P w K mg base (2 * n + 3) (aCls mg "Search") "completed" ["self", "begun"] (spCompl mg n)
  | 0 => ok_completed_step T (k := 2) (by decide) (T.d_Search_completed_with.none)
  | n + 1 => ok_completed_step T (k := 2 * n + 4) (by omega) (ok_completed_with_step T (ok_completed T n))
def spFirst : Sp := fun vs H Q _ => ∃ (many : Nat) (lw : Addr) (ws : List (List Int)), vs = [.int many, .ref lw] ∧ 1 ≤ many ∧ many ≤ 8 ∧ WL H lw ws ∧ ws.length ≤ 100 ∧ (∀ w ∈ ws, Sh.Good many w) ∧
  (Sh.fst many ws = none → ∀ H', Same H H' → Q .non H') ∧ ∀ os r H', Sh.fst many ws = some os → H r = none → Same H H' → H' r = some (.lst (os.map V.int)) → Q (.ref r) H'
theorem ok_first (T : Txt K mg) : Cal P w K mg base 20 "first" ["many", "wishes"] spFirst := by
  have C_check_wishes := ok_check_wishes (P := P) (w := w) (base := base) T
  have C_Search := ok_Search (P := P) (w := w) (base := base) T
  refine T.d_first.ok sc_first (fun vs H Q E h => ?_) (fun f cdv A outer s H vs Q E hr h => ?_)
  · obtain ⟨m, lw, ws, rfl, _⟩ := h
    rfl
  · obtain ⟨m, lw, ws, rfl, h1, h8, hW, hlen, hg, q0, q1⟩ := h
    have C_Search_completed := ok_completed (P := P) (w := w) (base := base) T m
    refine ⟨_, (pss_cons (ps_expr (pe_cal C_check_wishes (hr.mono (by first | decide | omega)) rfl (pa_cons (pv 0) (pa_cons (pv 1) pa_nil)))) (pss_one (ps_ret (pe_calm (pe_calk C_Search (hr.mono (by first | decide | omega)) rfl T.g_Search (pa_cons (pv 0) (pa_cons (pv 1) pa_nil))) T.cl_Search C_Search_completed (hr.mono (by first | decide | omega)) (pa_cons (pe_lst pa_nil) pa_nil))))), ?_⟩
    refine ⟨_, rfl, _, rfl, m, lw, ws, rfl, hW, hg, ?_⟩
    refine ⟨_, rfl, _, rfl, fun x dx nx ndx nex => ?_⟩
    have s0 : Same H (upd (upd H dx (.own x)) x (.ins (aCls mg "Search") dx [])) := fun b o e => by
      rw [upd_ne (ne_of_none e nx), upd_ne (ne_of_none e ndx)]
      exact e
    refine ⟨x, dx, lw, m, ws, rfl, upd_same, hW.same s0, hlen, h8, hg, fun l d H1 S fl fd kp => ⟨rfl, ?_⟩⟩
    have s1 : Same H H1 := fun b o e => kp b o (s0 b o e) (ne_of_none e nx)
    obtain ⟨⟨dy, hp⟩, hw, hd, hD⟩ := id S
    have nd0 : H d = none := s0.free fd
    refine ⟨x, dy, _, rfl, hp, sl_no (by decide +kernel) (by decide +kernel) (by decide +kernel), (by show 0 ≤ sizeLine; decide), fun b fb => ?_⟩
    have s2 : Same H1 (upd H1 b (.lst [])) := Same.new fb
    refine ⟨x, l, d, b, m, ws, [], [], rfl, S.same s2, upd_same, h8, hg, List.nodup_nil, fun y hy => by simp at hy, by simp, fun v kvs' H2 rs S2 res => ?_⟩
    have s3 : Same H H2 := fun c o e => rs c o (s2 c o (s1 c o e)) (ne_of_none e nd0)
    cases ho : Sh.fst m ws with
    | none =>
      rw [show Sh.tl m ws m [] = none from ho] at res
      have ev : v = .non := res
      subst ev
      exact q0 ho H2 s3
    | some os =>
      rw [show Sh.tl m ws m [] = some os from ho] at res
      obtain ⟨r, rfl, hr2, fr2⟩ := res
      refine q1 os r H2 ho ?_ s3 hr2
      rcases fr2 with ⟨e, _⟩ | fr2
      · omega
      · exact s1.free (s2.free fr2)

end
end K08
namespace K08
open PySem L2
set_option maxRecDepth 100000
set_option maxHeartbeats 4000000
section
variable {P : Program} {w : World} {K : PySem.W.Frag} {mg : Str → Option Value} {base : Heap}
theorem paired_rev {α β : Type} {F : α → β → Prop} : ∀ {l₁ : List α} {l₂ : List β}, Paired F l₁ l₂ → Paired F l₁.reverse l₂.reverse
  | _, _, .nil => .nil
  | _ :: _, _ :: _, .cons h t => by
    rw [List.reverse_cons, List.reverse_cons]
    exact Paired.snoc (paired_rev t) h
def spRingOf : Sp := fun vs H Q _ => ∃ (l1 l2 : Addr) (c1 c2 : List Tn) (n : Nat) (ws : List (List Int)) (s0 t u : Tn), vs = [.ref l1, .ref l2] ∧ TL H l1 c1 ∧ TL H l2 c2 ∧ c1.length = c2.length ∧ c1.length ≤ 57 ∧ Sh.Turn n s0 ∧ Sh.Chn (Sh.nbT n ws) s0 t c1 ∧ Sh.Chn (Sh.nbT n ws) s0 u c2 ∧ u ∈ Sh.nbT n ws t ∧ t ≠ u ∧
  ∀ l c H', H l = none → Same H H' → TL H' l c → Sh.IsRing n ws c → c.length ≤ 113 → Q (.ref l) H'
theorem ok_ring_of_paths (T : Txt K mg) : Cal P w K mg base 1 "ring_of_paths" ["one", "other"] spRingOf := by
  refine T.d_ring_of_paths.ok sc_ring_of_paths (fun vs H Q E h => ?_) (fun f cdv A outer s H vs Q E hr h => ?_)
  · obtain ⟨l1, l2, c1, c2, n, ws, s0, t, u, rfl, _⟩ := h
    rfl
  · obtain ⟨l1, l2, c1, c2, n, ws, s0, t, u, rfl, ⟨as1, hL1, hP1⟩, ⟨as2, hL2, hP2⟩, hl, h57, ts, h1, h2, hu, htu, q⟩ := h
    have hu64 := room64 hr
    have e1 : as1.length = c1.length := Paired.length hP1
    have e2 : as2.length = c2.length := Paired.length hP2
    have hpos := h1.pos
    have get : ∀ {as : List Addr} {c : List Tn} (i : Nat), TPs H as c → as.length = c.length → i < c.length → ∃ a p, atI (as.map V.ref) (i : Int) = some (V.ref a) ∧ c[i]? = some p ∧ H a = some (tupT p) := fun {as c} i hP el hi => by
      obtain ⟨a, ha, hp⟩ := paired_get (i := i) (b := c[i]) hP (List.getElem?_eq_getElem hi)
      exact ⟨a, c[i], atI_nat (by rw [List.getElem?_map, ha]; rfl), List.getElem?_eq_getElem hi, hp⟩
    have lastne : ∀ i, c1[i]? = c2[i]? → i < c1.length → i + 1 < c1.length := fun i he hi => by
      refine Classical.byContradiction fun z => htu ?_
      have el : i = c1.length - 1 := by omega
      have a1 := h1.lt
      have a2 := h2.lt
      rw [List.getLast?_eq_getElem?] at a1 a2
      rw [el, a1, hl, a2] at he
      exact Option.some.inj he
    have h0 : c1[0]? = c2[0]? := by
      have a1 := h1.hd
      have a2 := h2.hd
      rw [List.head?_eq_getElem?] at a1 a2
      rw [a1, a2]
    refine ⟨_, (pss_cons (ps_set (i := 2) sc_ring_of_paths.nd rfl (Or.inl rfl) pe_int) (pss_cons (ps_by (ps_while PassesOwn.never (pt_cmpR (k_eqD (K := K) rfl hu64) (pe_ix (k_ixL (K := K) rfl) (pv 0) (pe_op op_add (pv 2) pe_int) (fun _ _ => rfl)) (pe_ix (k_ixL (K := K) rfl) (pv 1) (pe_op op_add (pv 2) pe_int) (fun _ _ => rfl)) (nomark _)) (pss_one (ps_aug (i := 2) sc_ring_of_paths.nd rfl (Or.inl rfl) pe_int ip_add)))) (pss_one (ps_ret (pe_op op_cat (pe_slice (k_slL (K := K) rfl) (pv 0) (po_some (pv 2)) po_none) (pe_listRev rfl T.b_list rfl T.b_reversed rfl (pe_slice (k_slL (K := K) rfl) (pv 1) (po_some (pe_op op_add (pv 2) pe_int)) po_none))))))), ?_⟩
    refine ⟨fun σ H' => ∃ j : Nat, σ = [some (.ref l1), some (.ref l2), some (.int j)] ∧ H' = H ∧ c1[j]? = c2[j]? ∧ j + 1 < c1.length, ?_, ?_⟩
    · refine ⟨fun μ σ H' => ∃ j : Nat, μ = c1.length - j ∧ σ = [some (.ref l1), some (.ref l2), some (.int j)] ∧ H' = H ∧ c1[j]? = c2[j]? ∧ j + 1 < c1.length, ⟨_, 0, rfl, rfl, rfl, h0, lastne 0 h0 (by omega)⟩, ?_⟩
      rintro μ σ H1 ⟨j, rfl, rfl, rfl, hj, hjl⟩
      have ej : (j : Int) + 1 = ((j + 1 : Nat) : Int) := by omega
      obtain ⟨a1, p1, b1, d1, f1⟩ := get (j + 1) hP1 e1 (by omega)
      obtain ⟨a2, p2, b2, d2, f2⟩ := get (j + 1) hP2 e2 (by omega)
      refine ⟨_, rfl, _, rfl, _, _, rfl, rfl, l1, _, _, _, rfl, rfl, SqL.of hL1, (by rw [ej]; exact b1), _, rfl, _, rfl, _, _, rfl, rfl, l2, _, _, _, rfl, rfl, SqL.of hL2, (by rw [ej]; exact b2), dP p1, dP p2, dt_P (SqT.of f1), dt_P (SqT.of f2), shaped_P _, shaped_P _, _, rfl, ?_⟩
      show if (PyData.eqv (dP p1) (dP p2)) = true then _ else _
      rw [eqv_P]
      by_cases hp : p1 = p2
      · rw [decide_eq_true hp]
        refine iteT ?_
        have he : c1[j + 1]? = c2[j + 1]? := by rw [d1, d2, hp]
        refine ⟨fun σ' H' => ∃ j' : Nat, j' = j + 1 ∧ σ' = [some (.ref l1), some (.ref l2), some (.int j')] ∧ H' = H1 ∧ c1[j']? = c2[j']? ∧ j' + 1 < c1.length, fun σ' H' ⟨j', e, r⟩ => ⟨c1.length - j', by omega, j', rfl, r⟩, ?_⟩
        exact ⟨_, rfl, _, _, rfl, rfl, j + 1, rfl, rfl, rfl, he, lastne _ he (by omega)⟩
      · rw [decide_eq_false hp]
        refine iteF ?_
        exact ⟨j, rfl, rfl, hj, hjl⟩
    · rintro σ H1 ⟨j, rfl, rfl, hj, hjl⟩
      have ej : (j : Int) + 1 = ((j + 1 : Nat) : Int) := by omega
      refine ⟨_, rfl, _, rfl, _, rfl, l1, _, rfl, SqL.of hL1, fun la fla => ?_⟩
      rw [cut_drop, ← List.map_drop]
      have s1 : Same H1 (upd H1 la (.lst ((as1.drop j).map V.ref))) := Same.new fla
      have ha : (upd H1 la (.lst ((as1.drop j).map V.ref))) la = some (.lst ((as1.drop j).map V.ref)) := upd_same
      generalize upd H1 la (.lst ((as1.drop j).map V.ref)) = H2 at s1 ha ⊢
      refine ⟨_, rfl, _, rfl, _, _, rfl, rfl, _, rfl, l2, _, rfl, SqL.of (s1 _ _ hL2), fun lb flb => ?_⟩
      rw [ej, cut_drop, ← List.map_drop]
      have s2 : Same H2 (upd H2 lb (.lst ((as2.drop (j + 1)).map V.ref))) := Same.new flb
      have hb : (upd H2 lb (.lst ((as2.drop (j + 1)).map V.ref))) lb = some (.lst ((as2.drop (j + 1)).map V.ref)) := upd_same
      generalize upd H2 lb (.lst ((as2.drop (j + 1)).map V.ref)) = H3 at s2 hb ⊢
      refine ⟨lb, _, rfl, SqL.of hb, fun lc flc => ?_⟩
      rw [← List.map_reverse]
      have s3 : Same H3 (upd H3 lc (.lst ((as2.drop (j + 1)).reverse.map V.ref))) := Same.new flc
      have hc : (upd H3 lc (.lst ((as2.drop (j + 1)).reverse.map V.ref))) lc = some (.lst ((as2.drop (j + 1)).reverse.map V.ref)) := upd_same
      generalize upd H3 lc (.lst ((as2.drop (j + 1)).reverse.map V.ref)) = H4 at s3 hc ⊢
      have s14 := s1.trans (s2.trans s3)
      have R := Sh.ring_of ts h1 h2 hl hu hjl hj
      have hlen : (c1.drop j ++ (c2.drop (j + 1)).reverse).length ≤ 113 := by
        rw [List.length_append, List.length_reverse, List.length_drop, List.length_drop]
        omega
      refine ⟨la, lc, _, _, rfl, rfl, s3 _ _ (s2 _ _ ha), hc, ?_, fun lp flp => ?_⟩
      · rw [List.length_map, List.length_map, List.length_reverse, List.length_drop, List.length_drop]
        exact Nat.le_of_lt (small1000 (by omega))
      · refine q lp _ _ (s14.free flp) (s14.trans (Same.new flp)) ⟨as1.drop j ++ (as2.drop (j + 1)).reverse, by rw [upd_same, List.map_append], ?_⟩ R hlen
        have pp : TPs H1 (as1.drop j ++ (as2.drop (j + 1)).reverse) (c1.drop j ++ (c2.drop (j + 1)).reverse) := paired_app (paired_drop j hP1) (paired_rev (paired_drop (j + 1) hP2))
        exact pp.same (s14.trans (Same.new flp))
def Kpt (H H' : Hp) (r : Addr) : Prop := ∀ c o, H c = some o → c ≠ r → H' c = some o
theorem tl_kpt {H H' : Hp} {r l : Addr} {ps : List Tn} {kvs : List (List Key × V)} (h : TL H l ps) (k : Kpt H H' r) (hr : Rd H r (.dT kvs)) : TL H' l ps := by
  have nr : ∀ b xs, H b = some (.lst xs) → b ≠ r := fun b xs hb e => by
    rcases hr with z | ⟨o, z⟩ <;> (rw [← e, hb] at z; cases z)
  have nt : ∀ b xs, H b = some (.tup xs) → b ≠ r := fun b xs hb e => by
    rcases hr with z | ⟨o, z⟩ <;> (rw [← e, hb] at z; cases z)
  obtain ⟨as, h1, h2⟩ := h
  exact ⟨as, k _ _ h1 (nr _ _ h1), Paired.mapP h2 fun a p e => k _ _ e (nt _ _ e)⟩
theorem pairs_kpt {H H' : Hp} {r : Addr} {g : Addr → Prop} {kvs : List (List Key × V)} {es : List (Tn × List Tn)} {kvr : List (List Key × V)} (h : Paired (fun kv e => kv.1 = kT e.1 ∧ ∃ l, kv.2 = V.ref l ∧ g l ∧ TL H l e.2) kvs es) (k : Kpt H H' r) (hr : Rd H r (.dT kvr)) :
    Paired (fun kv e => kv.1 = kT e.1 ∧ ∃ l, kv.2 = V.ref l ∧ g l ∧ TL H' l e.2) kvs es := Paired.mapP h fun kv e ⟨a, l, b, c, d⟩ => ⟨a, l, b, c, tl_kpt d k hr⟩
def spAmong : Sp := fun vs H Q _ => ∃ (d r : Addr) (n : Nat) (ws : List (List Int)) (s0 : Tn) (g : Addr → Prop) (kvr : List (List Key × V)) (paths : List (Tn × List Tn)) (k : Nat), vs = [.ref d, .ref r] ∧ d ≠ r ∧ n ≤ 8 ∧ PR H d g ((Sh.allT n).map fun p => (p, Sh.nbT n ws p)) ∧
  H r = some (.dT kvr) ∧ Paired (fun kv e => kv.1 = kT e.1 ∧ ∃ l, kv.2 = V.ref l ∧ True ∧ TL H l e.2) kvr paths ∧ Sh.Turn n s0 ∧ Sh.Bfs (Sh.nbT n ws) s0 k paths [] (fun _ _ => False) ∧ (∀ t c, (t, c) ∈ paths → c.length ≠ k + 1) ∧ (∀ t c, (t, c) ∈ paths → Sh.Turn n t) ∧ k ≤ 56 ∧
  (∀ H' o, Kpt H H' r → H' r = some (.frz o (.dT kvr)) → (∀ t c u c', (t, c) ∈ paths → u ∈ Sh.nbT n ws t → (u, c') ∈ paths → c'.length ≠ c.length) → Q .non H') ∧
  (∀ l c H', H l = none → Kpt H H' r → TL H' l c → Sh.IsRing n ws c → c.length ≤ 113 → Q (.ref l) H')
theorem ok_ring_among (T : Txt K mg) : Cal P w K mg base 2 "ring_among" ["barred", "paths"] spAmong := by
  have C_ring_of_paths := ok_ring_of_paths (P := P) (w := w) (base := base) T
  refine T.d_ring_among.ok sc_ring_among (fun vs H Q E h => ?_) (fun f cdv A outer s H vs Q E hr h => ?_)
  · obtain ⟨d, r, n, ws, s0, g, kvr, paths, k, rfl, _⟩ := h
    rfl
  · obtain ⟨d, r, n, ws, s0, g, kvr, paths, k, rfl, ndr, h8, ⟨kvd, hKd, hPd⟩, hR, hP, ts0, B, he, tn, hk, q0, q1⟩ := h
    have hu := hu_of hr
    refine ⟨_, (pss_cons (ps_for PassesOwn.never rfl (pi_dictT (pv 1)) (pg_name (i := 2) sc_ring_among.nd rfl (Or.inl rfl)) (pss_one (ps_for PassesOwn.never rfl (k_list (K := K) rfl (pe_dget hu (pv 0) (pv 2) (fun _ _ => rfl))) (pg_name (i := 3) sc_ring_among.nd rfl (Or.inl rfl)) (pss_one (ps_if (pt_cmpR op_eq (pe_callB (k_len (K := K) rfl) rfl T.b_len PySem.boot_len (pa_cons (pe_dget hu (pv 1) (pv 3) (fun _ _ => rfl)) pa_nil)) (pe_callB (k_len (K := K) rfl) rfl T.b_len PySem.boot_len (pa_cons (pe_dget hu (pv 1) (pv 2) (fun _ _ => rfl)) pa_nil)) (nomark _)) (pss_one (ps_ret (pe_cal C_ring_of_paths (hr.mono (by first | decide | omega)) rfl (pa_cons (pe_dget hu (pv 1) (pv 2) (fun _ _ => rfl)) (pa_cons (pe_dget hu (pv 1) (pv 3) (fun _ _ => rfl)) pa_nil))))) pss_nil))))) (pss_one (ps_ret pe_non))), ?_⟩
    have len : kvr.length = paths.length := Paired.length hP
    -- what each turn bars
    have nbAt : ∀ p, Sh.Turn n p → ∃ lnb as, valV kvd (kT p) = some (.ref lnb) ∧ H lnb = some (.lst (as.map V.ref)) ∧ TPs H as (Sh.nbT n ws p) := fun p tp => by
      rcases PD.look p hPd with ⟨_, z⟩ | ⟨l, c, a, b, _, e⟩
      · exact absurd ⟨_, List.mem_map.mpr ⟨p, Sh.mem_allT.mpr tp, rfl⟩⟩ z
      · obtain ⟨p', _, e'⟩ := List.mem_map.mp b
        obtain ⟨rfl, rfl⟩ := Prod.mk.inj e'
        obtain ⟨as, e1, e2⟩ := e
        exact ⟨l, as, a, e1, e2⟩
    have pAt : ∀ p c, (p, c) ∈ paths → ∃ l, valV kvr (kT p) = some (.ref l) ∧ TL H l c := fun p c hc => by
      rcases PD.look p hP with ⟨_, z⟩ | ⟨l, c', a, b, _, e⟩
      · exact absurd ⟨c, hc⟩ z
      · rw [B.key hc b]
        exact ⟨l, a, e⟩
    refine ⟨_, rfl, r, kvr, rfl, hR, fun o => ?_⟩
    have hRr : Rd H r (.dT kvr) := .inl hR
    have k1 : Kpt H (upd H r (.frz o (.dT kvr))) r := fun c u hc hn => by rw [upd_ne hn]; exact hc
    have r1 : (upd H r (.frz o (.dT kvr))) r = some (.frz o (.dT kvr)) := upd_same
    generalize upd H r (.frz o (.dT kvr)) = H1 at k1 r1 ⊢
    have rd1 : Rd H1 r (.dT kvr) := .inr ⟨o, r1⟩
    have d1 : Rd H1 d (.dT kvd) := hKd.imp (fun z => k1 _ _ z ndr) fun ⟨o, z⟩ => ⟨o, k1 _ _ z ndr⟩
    have nr : ∀ b xs, H b = some (.lst xs) → b ≠ r := fun b xs hb e => by rw [e, hR] at hb; cases hb
    refine for_dictT (a := r) (o := o) (kvs := kvr) (fun i σ H' => ∃ (v3 : Option V) (v2 : Option V), σ = [some (.ref d), some (.ref r), v2, v3] ∧ Same H1 H' ∧ ∀ j t c, j < i → paths[j]? = some (t, c) → ∀ u c', u ∈ Sh.nbT n ws t → (u, c') ∈ paths → c'.length ≠ c.length)
      ⟨none, none, rfl, Same.refl _, fun j _ _ hj => by omega⟩ (fun i σ H' _ ⟨_, _, _, s, _⟩ => s _ _ r1) ?_ ?_
    · rintro i key vv b σ H' hi hb ⟨v3, v2, rfl, s1, hno⟩
      obtain ⟨⟨t, c⟩, hp, e1, l, e2, _, hTL⟩ := paired_get1 hP hi
      have e1 : key = kT t := e1
      have e2 : vv = V.ref l := e2
      subst e1
      have htc : (t, c) ∈ paths := List.mem_of_getElem? hp
      have tt := tn t c htc
      have hbt : H' b = some (tupT t) := hb
      obtain ⟨lnb, nbs, hv1, hv2, hv3⟩ := nbAt t tt
      have hv2' := k1 _ _ hv2 (nr _ _ hv2)
      have hnb' : TL H1 lnb (Sh.nbT n ws t) := tl_kpt ⟨nbs, hv2, hv3⟩ k1 hRr
      obtain ⟨nbs1, hn1, hn3⟩ := hnb'
      refine ⟨_, rfl, _, rfl, d, _, rfl, DGet.tvr (d1.same s1) hbt hv1, lnb, rfl, ⟨_, SqL.of (s1 _ _ hn1)⟩, for_list (K := K) (a := lnb) (xs := nbs1.map V.ref)
        (fun j σ H2 => ∃ (v3 : Option V), σ = [some (.ref d), some (.ref r), some (.ref b), v3] ∧ Same H1 H2 ∧ H2 b = some (tupT t) ∧ ∀ m u, m < j → (Sh.nbT n ws t)[m]? = some u → ∀ c', (u, c') ∈ paths → c'.length ≠ c.length)
        ⟨v3, rfl, s1, hbt, fun m _ hm => by omega⟩ (fun j σ H2 _ ⟨_, _, s2, _⟩ => SqL.of (s2 _ _ hn1)) ?_ ?_⟩
      · rintro j x σ H2 hj ⟨v3, rfl, s2, hb2, hno2⟩
        rw [List.getElem?_map] at hj
        cases e : nbs1[j]? with
        | none => rw [e] at hj; cases hj
        | some a =>
          rw [e] at hj
          obtain rfl : V.ref a = x := Option.some.inj hj
          obtain ⟨u, hu1, hu2⟩ := paired_get1 hn3 e
          have hub : u ∈ Sh.nbT n ws t := List.mem_of_getElem? hu1
          obtain ⟨cu, hcu⟩ := B.all he u _ ((B.ch t c htc).1.snoc hub)
          obtain ⟨lu, pu1, pu2⟩ := pAt u cu hcu
          obtain ⟨lt, pt1, pt2⟩ := pAt t c htc
          have pu3 := (tl_kpt pu2 k1 hRr).same s2
          have pt3 := (tl_kpt pt2 k1 hRr).same s2
          obtain ⟨au, au1, au2⟩ := id pu3
          obtain ⟨at', at1, at2⟩ := id pt3
          have ha2 := s2 _ _ hu2
          have rd2 := rd1.same s2
          refine ⟨_, rfl, _, rfl, r, _, rfl, DGet.tvr rd2 ha2 pu1, lu, _, rfl, .inl (SqL.of au1), _, rfl, _, rfl, r, _, rfl, DGet.tvr rd2 hb2 pt1, lt, _, rfl, .inl (SqL.of at1), rfl, _, rfl, ?_⟩
          rw [List.length_map, List.length_map, Paired.length au2, Paired.length at2]
          by_cases hlen : cu.length = c.length
          · rw [decide_eq_true (congrArg V.int (by omega : ((cu.length : Nat) : Int) = (c.length : Int)))]
            refine iteT ?_
            have hcl : c.length ≤ 57 := by
              rcases B.lo t c htc with z | ⟨_, z⟩
              · omega
              · simp at z
            have htu : t ≠ u := fun e => by
              have hbb := (Sh.mem_nbT.mp hub).2
              rw [← e] at hbb
              unfold Sh.bars Sh.onw at hbb
              have := tt.ne
              rw [if_neg (fun z => this z.symm)] at hbb
              cases hbb
            refine ⟨_, rfl, _, rfl, r, _, rfl, DGet.tvr rd2 hb2 pt1, _, rfl, _, rfl, r, _, rfl, DGet.tvr rd2 ha2 pu1, lt, lu, c, cu, n, ws, s0, t, u, rfl, pt3, pu3, hlen.symm, hcl, ts0, (B.ch t c htc).1, (B.ch u cu hcu).1, hub, htu, fun lr cr H3 flr s3 hT3 R hl113 => ?_⟩
            refine q1 lr cr H3 ?_ (fun cc oo hcc hnc => s3 _ _ (s2 _ _ (k1 cc oo hcc hnc))) hT3 R hl113
            have f1 := s2.free flr
            cases hz : H lr with
            | none => rfl
            | some oz =>
              by_cases er : lr = r
              · rw [er, r1] at f1; cases f1
              · rw [k1 _ _ hz er] at f1; cases f1
          · rw [decide_eq_false (fun z => hlen (by have := V.int.inj z; omega))]
            refine iteF ?_
            refine ⟨_, rfl, s2, hb2, fun m u' hm hu' c' hc' => ?_⟩
            by_cases e' : m = j
            · subst e'
              rw [hu1] at hu'
              have : u = u' := Option.some.inj hu'
              subst this
              rw [B.key hc' hcu]
              exact hlen
            · exact hno2 m u' (by omega) hu' c' hc'
      · rintro σ H2 ⟨v3, rfl, s2, hb2, hno2⟩
        refine ⟨_, _, rfl, s2, fun j t' c' hj hp' u cu hu2 hcu => ?_⟩
        by_cases e : j = i
        · subst e
          rw [hp] at hp'
          obtain ⟨rfl, rfl⟩ := Prod.mk.inj (Option.some.inj hp')
          obtain ⟨m, hm⟩ := List.getElem?_of_mem hu2
          refine hno2 m u ?_ hm cu hcu
          rw [List.length_map, Paired.length hn3]
          exact (List.getElem?_eq_some_iff.mp hm).1
        · exact hno j t' c' (by omega) hp' u cu hu2 hcu
    · rintro σ H' ⟨v3, v2, rfl, s1, hno⟩
      refine q0 H' o (fun cc oo hcc hnc => s1 _ _ (k1 cc oo hcc hnc)) (s1 _ _ r1) fun t c u c' htc hu2 hc' => ?_
      obtain ⟨j, hj⟩ := List.getElem?_of_mem htc
      exact hno j t c (by rw [len]; exact (List.getElem?_eq_some_iff.mp hj).1) hj u c' hu2 hc'

end
end K08
namespace K08
open PySem L2
set_option maxRecDepth 100000
set_option maxHeartbeats 4000000
section
variable {P : Program} {w : World} {K : PySem.W.Frag} {mg : Str → Option Value} {base : Heap}
def spOdd : Sp := fun vs H Q _ => ∃ (m : Nat) (lw : Addr) (ws : List (List Int)), vs = [.int m, .ref lw] ∧ m ≤ 8 ∧ WL H lw ws ∧ ws.length ≤ 100 ∧ (∀ w ∈ ws, Sh.Good m w) ∧
  (Sh.Col m ws → ∀ H', Same H H' → Q .non H') ∧ ∀ l c H', H l = none → Same H H' → TL H' l c → Sh.IsRing m ws c → c.length ≤ 113 → Q (.ref l) H'
theorem ok_odd_ring (T : Txt K mg) : Cal P w K mg base 4 "odd_ring" ["many", "wishes"] spOdd := by
  have C_check_wishes := ok_check_wishes (P := P) (w := w) (base := base) T
  have C_barred_turns := ok_barred_turns (P := P) (w := w) (base := base) T
  have C_paths_from := ok_paths_from (P := P) (w := w) (base := base) T
  have C_ring_among := ok_ring_among (P := P) (w := w) (base := base) T
  refine T.d_odd_ring.ok sc_odd_ring (fun vs H Q E h => ?_) (fun f cdv A outer s H vs Q E hr h => ?_)
  · obtain ⟨m, lw, ws, rfl, _⟩ := h
    rfl
  · obtain ⟨m, lw, ws, rfl, h8, hW, hlen, hg, q0, q1⟩ := h
    have hu := hu_of hr
    refine ⟨_, (pss_cons (ps_expr (pe_cal C_check_wishes (hr.mono (by first | decide | omega)) rfl (pa_cons (pv 0) (pa_cons (pv 1) pa_nil)))) (pss_cons (ps_set (i := 2) sc_odd_ring.nd rfl (Or.inl rfl) (pe_cal C_barred_turns (hr.mono (by first | decide | omega)) rfl (pa_cons (pv 0) (pa_cons (pv 1) pa_nil)))) (pss_cons (ps_set (i := 3) sc_odd_ring.nd rfl (Or.inl rfl) pe_dnewT) (pss_cons (ps_for PassesOwn.never rfl (pi_dictT (pv 2)) (pg_name (i := 4) sc_odd_ring.nd rfl (Or.inl rfl)) (pss_one (ps_if (pt_cmp (pc_dnotin hu (pv 4) (pv 3))) (pss_cons (ps_set (i := 5) sc_odd_ring.nd rfl (Or.inl rfl) (pe_cal C_paths_from (hr.mono (by first | decide | omega)) rfl (pa_cons (pv 2) (pa_cons (pv 4) pa_nil)))) (pss_cons (ps_set (i := 6) sc_odd_ring.nd rfl (Or.inl rfl) (pe_cal C_ring_among (hr.mono (by first | decide | omega)) rfl (pa_cons (pv 2) (pa_cons (pv 5) pa_nil)))) (pss_cons (ps_if (pt_cmpR op_notN (pv 6) pe_non (nomark _)) (pss_one (ps_ret (pv 6))) pss_nil) (pss_one (ps_expr (pe_bm PySem.F.plainAttrs_dict PySem.F.slot_dict_update PySem.F.type_dict_update (mt_updT hu) (pv 3) (pa_cons (pv 5) pa_nil))))))) pss_nil))) (pss_one (ps_ret pe_non)))))), ?_⟩
    refine ⟨_, rfl, _, rfl, m, lw, ws, rfl, hW, hg, ?_⟩
    refine ⟨_, rfl, _, rfl, m, lw, ws, rfl, h8, hW, hlen, hg, fun d H1 fd s1 ⟨kvd, hKd, hPd⟩ => ?_⟩
    intro rr frr
    have ndr : d ≠ rr := fun e => by rw [← e, hKd] at frr; cases frr
    have s2 : Same H1 (upd H1 rr (.dT [])) := Same.new frr
    have hrr2 : (upd H1 rr (.dT [])) rr = some (.dT []) := upd_same
    generalize upd H1 rr (.dT []) = H2 at s2 hrr2 ⊢
    have hKd2 := s2 _ _ hKd
    refine ⟨_, rfl, d, kvd, rfl, hKd2, fun o => ?_⟩
    have k3 : Kpt H2 (upd H2 d (.frz o (.dT kvd))) d := fun c u hc hn => by rw [upd_ne hn]; exact hc
    have d3 : (upd H2 d (.frz o (.dT kvd))) d = some (.frz o (.dT kvd)) := upd_same
    have rr3 : (upd H2 d (.frz o (.dT kvd))) rr = some (.dT []) := k3 _ _ hrr2 (Ne.symm ndr)
    have n3 : ∀ b, (upd H2 d (.frz o (.dT kvd))) b = none → H2 b = none := fun b hb => by
      by_cases e : b = d
      · rw [e, upd_same] at hb; cases hb
      · rw [upd_ne e] at hb; exact hb
    generalize upd H2 d (.frz o (.dT kvd)) = H3 at k3 d3 rr3 n3 ⊢
    have hP3 : Paired (fun kv e => kv.1 = kT e.1 ∧ ∃ l, kv.2 = V.ref l ∧ True ∧ TL H3 l e.2) kvd ((Sh.allT m).map fun p => (p, Sh.nbT m ws p)) :=
      pairs_kpt (Paired.mapP hPd fun kv e ⟨a, l, b, c, dd⟩ => ⟨a, l, b, c, dd.same s2⟩) k3 (.inl hKd2)
    have dlen : kvd.length = (Sh.allT m).length := by rw [Paired.length hP3, List.length_map]
    have fdH : H d = none := fd
    have frrH : H rr = none := s1.free frr
    -- from the entry to any later heap
    have sH : ∀ {H' : Hp}, Kpt H3 H' rr → Same H H' := fun {H'} k c u hc => k c u (k3 c u (s2 c u (s1 c u hc)) (ne_of_none hc fdH)) (ne_of_none hc frrH)
    refine for_dictT (a := d) (o := o) (kvs := kvd) (fun i σ H' => ∃ (kvr : List (List Key × V)) (R : Tn → Prop) (f : Tn → Bool) (u4 u5 u6 : Option V), σ = [some (.int m), some (.ref lw), some (.ref d), some (.ref rr), u4, u5, u6] ∧ Kpt H3 H' rr ∧ H' rr = some (.dT kvr) ∧ Sh.Part m ws R f ∧
        (∀ t, Sh.Turn m t → ((valV kvr (kT t)).isSome = true ↔ R t)) ∧ (∀ j t, j < i → (Sh.allT m)[j]? = some t → R t) ∧ kvr.length ≤ 56 * i)
      ⟨[], fun _ => False, fun _ => false, none, none, none, rfl, fun c u hc _ => hc, rr3, Sh.Part.none, fun t _ => by simp [valV_nil], fun j _ hj => by omega, Nat.zero_le _⟩ (fun i σ H' _ ⟨_, _, _, _, _, _, _, k, _⟩ => k _ _ d3 ndr) ?_ ?_
    · rintro i key vv b σ H' hi hb ⟨kvr, R, f, u4, u5, u6, rfl, k4, hrr, PR4, hv, hdone, hkl⟩
      obtain ⟨⟨t, nbt⟩, hp, e1, _⟩ := paired_get1 hP3 hi
      have e1 : key = kT t := e1
      subst e1
      have hbt : H' b = some (tupT t) := hb
      rw [List.getElem?_map] at hp
      have hti : (Sh.allT m)[i]? = some t := by
        cases e : (Sh.allT m)[i]? with
        | none => rw [e] at hp; cases hp
        | some t' =>
          rw [e] at hp
          have := Option.some.inj hp
          rw [(Prod.mk.inj this).1]
      have tt : Sh.Turn m t := Sh.mem_allT.mp (List.mem_of_getElem? hti)
      have hi56 : i < 56 := by
        have h1 := (List.getElem?_eq_some_iff.mp hti).1
        have h2 := Sh.allT_len h8
        omega
      have more : ∀ {R' : Tn → Prop}, (∀ t, R t → R' t) → R' t → ∀ j t', j < i + 1 → (Sh.allT m)[j]? = some t' → R' t' := fun {R'} hRR ht j t' hj hj2 => by
        by_cases e : j = i
        · subst e
          rw [hti] at hj2
          rw [← Option.some.inj hj2]
          exact ht
        · exact hRR t' (hdone j t' (by omega) hj2)
      refine ⟨_, rfl, _, rfl, rr, _, rfl, DGet.t hrr (kT_tup hbt), _, rfl, ?_⟩
      cases ev : valV kvr (kT t) with
      | some v =>
        refine iteF ?_
        exact ⟨kvr, R, f, _, _, _, rfl, k4, hrr, PR4, hv, more (fun _ z => z) ((hv t tt).mp (by rw [ev]; rfl)), by omega⟩
      | none =>
        refine iteT ?_
        have d4 := k4 _ _ d3 ndr
        have hP4 := pairs_kpt hP3 k4 (.inl rr3)
        refine ⟨_, rfl, _, rfl, d, b, m, ws, t, fun _ => True, rfl, h8, ⟨kvd, .inr ⟨o, d4⟩, hP4⟩, hbt, tt, fun r H5 paths k fr s5 ⟨kvp, hKp, hPp⟩ B he tn hk56 hp56 => ?_⟩
        have d5 := s5 _ _ d4
        have hrr5 := s5 _ _ hrr
        have nrr : rr ≠ r := fun e => by rw [← e, hrr] at fr; cases fr
        have ndr5 : d ≠ r := fun e => by rw [← e, d4] at fr; cases fr
        have hP5 : Paired (fun kv e => kv.1 = kT e.1 ∧ ∃ l, kv.2 = V.ref l ∧ True ∧ TL H5 l e.2) kvd ((Sh.allT m).map fun p => (p, Sh.nbT m ws p)) := Paired.mapP hP4 fun kv e ⟨a, l, b, c, dd⟩ => ⟨a, l, b, c, dd.same s5⟩
        have plen : kvp.length = paths.length := Paired.length hPp
        have fr3 : H3 r = none := by
          cases hz : H3 r with
          | none => rfl
          | some oz => rw [k4 _ _ hz (Ne.symm nrr)] at fr; cases fr
        refine ⟨_, rfl, _, rfl, d, r, m, ws, t, fun _ => True, kvp, paths, k, rfl, ndr5, h8, ⟨kvd, .inr ⟨o, d5⟩, hP5⟩, hKp, Paired.mapP hPp fun kv e ⟨a, l, b, c, dd⟩ => ⟨a, l, b, trivial, dd⟩, tt, B, he, tn, hk56, fun H6 o6 k6 r6 no => ?_, fun l c H6 fl k6 hTL R6 h113 => ?_⟩
        · refine ⟨_, rfl, rfl, _, rfl, iteF ?_⟩
          have hrr6 := k6 _ _ hrr5 nrr
          obtain ⟨c0, hc0⟩ := B.cp t [t] Sh.Chn.one (by simp)
          have pne : kvp ≠ [] := fun e => by
            rw [e] at plen
            have : paths = [] := List.length_eq_zero_iff.mp plen.symm
            rw [this] at hc0
            simp at hc0
          have keys : ∀ p ∈ kvp, ∃ u, Sh.Turn m u ∧ p.1 = kT u := fun p hp => by
            obtain ⟨j, hj⟩ := List.getElem?_of_mem hp
            obtain ⟨⟨u, cu⟩, hu1, hu2, _⟩ := paired_get1 hPp hj
            exact ⟨u, tn u cu (List.mem_of_getElem? hu1), hu2⟩
          obtain ⟨g, PG⟩ := Sh.Bfs.part B he tn no
          obtain ⟨f', PJ⟩ := Sh.Part.join PR4 PG
          refine ⟨_, rfl, .inr (.inr (.inl ⟨rfl, .inr ⟨_, hrr6⟩⟩)), _, rfl, rr, r, kvr, kvp, rfl, rfl, nrr, hrr6, .inr ⟨o6, r6⟩, pne, by omega, fun p hp p' hp' P' w' hh => ?_, ?_⟩
          · obtain ⟨u, tu, eu⟩ := keys p hp
            obtain ⟨u', tu', eu'⟩ := keys p' hp'
            rw [eu, eu'] at hh ⊢
            exact kT_inj8 h8 tu tu' hh
          · refine ⟨mrgK kvr kvp, _, f', _, _, _, rfl, fun cc oo hcc hnc => ?_, upd_same, PJ, fun u tu => ?_, more (fun _ z => .inl z) (.inr ⟨c0, hc0⟩), ?_⟩
            · rw [upd_ne hnc]
              exact k6 _ _ (s5 _ _ (k4 _ _ hcc hnc)) (ne_of_none hcc fr3)
            · rw [valV_mrg, Bool.or_eq_true, hv u tu]
              refine or_congr Iff.rfl ?_
              rcases PD.look u hPp with ⟨z1, z2⟩ | ⟨l', c', z1, z2, _⟩
              · rw [z1]
                exact ⟨fun z => absurd z Bool.false_ne_true, fun z => absurd z z2⟩
              · rw [z1]
                exact ⟨fun _ => ⟨c', z2⟩, fun _ => rfl⟩
            · have := mrgK_len kvp kvr
              omega
        · refine ⟨_, rfl, rfl, _, rfl, iteT ?_⟩
          refine ⟨_, rfl, q1 l c H6 ((sH k4).free (s5.free fl)) (fun cc oo hcc => ?_) hTL R6 h113⟩
          have h4 := sH k4 cc oo hcc
          exact k6 _ _ (s5 _ _ h4) (ne_of_none h4 fr)
    · rintro σ H' ⟨kvr, R, f, u4, u5, u6, rfl, k4, hrr, PR4, hv, hdone, _⟩
      refine q0 (PR4.col fun t tt => ?_) H' (sH k4)
      obtain ⟨j, hj⟩ := List.getElem?_of_mem (Sh.mem_allT.mpr tt)
      exact hdone j t (by rw [dlen]; exact (List.getElem?_eq_some_iff.mp hj).1) hj

end
end K08
namespace K08
open PySem L2
set_option maxRecDepth 100000
set_option maxHeartbeats 4000000
section
variable {P : Program} {w : World} {K : PySem.W.Frag} {mg : Str → Option Value} {base : Heap}
def noneP (many : Nat) (ws : List (List Int)) : List Int → Bool := fun ids => (Sh.fst many (Sh.pick ws ids)).isNone
def spClash : Sp := fun vs H Q _ => ∃ (many : Nat) (lw : Addr) (ws : List (List Int)), vs = [.int many, .ref lw] ∧ 1 ≤ many ∧ many ≤ 8 ∧ WL H lw ws ∧ ws.length ≤ 100 ∧ (∀ w ∈ ws, Sh.Good many w) ∧
  ((Sh.fst many ws).isSome = true → ∀ H', Same H H' → Q .non H') ∧ (Sh.fst many ws = none → ∀ r H', H r = none → Same H H' → H' r = some (.lst ((Sh.cl (noneP many ws) ws.length ws.length).map V.int)) → Q (.ref r) H')
theorem ok_clash (T : Txt K mg) : Cal P w K mg base 21 "clash" ["many", "wishes"] spClash := by
  have C_first := ok_first (P := P) (w := w) (base := base) T
  refine T.d_clash.ok sc_clash (fun vs H Q E h => ?_) (fun f cdv A outer s H vs Q E hr h => ?_)
  · obtain ⟨m, lw, ws, rfl, _⟩ := h
    rfl
  · obtain ⟨m, lw, ws, rfl, h1, h8, hW, hlen, hg, q0, q1⟩ := h
    refine ⟨_, (pss_cons (ps_if (pt_cmpR op_notN (pe_cal C_first (hr.mono (by first | decide | omega)) rfl (pa_cons (pv 0) (pa_cons (pv 1) pa_nil))) pe_non (nomark _)) (pss_one (ps_ret pe_non)) pss_nil) (pss_cons (ps_set (i := 2) sc_clash.nd rfl (Or.inl rfl) (pe_listRange rfl T.b_list rfl T.b_range rfl (pe_callB (k_len (K := K) rfl) rfl T.b_len PySem.boot_len (pa_cons (pv 1) pa_nil)))) (pss_cons (ps_for PassesOwn.never rfl (pi_range1 rfl T.b_range (pa_cons (pe_callB (k_len (K := K) rfl) rfl T.b_len PySem.boot_len (pa_cons (pv 1) pa_nil)) pa_nil)) (pg_name (i := 3) sc_clash.nd rfl (Or.inr rfl)) (pss_cons (ps_comp (i := 4) (own := own_clash_c1) (cap := cap_clash_c1) rfl rfl bs_clash_c1 sc_clash.nd rfl rfl rfl (k_list (K := K) rfl (pv 2)) (fun _ _ _ _ => (pg_name (i := 0) nd_clash_c1 rfl (Or.inl rfl) (Or.inr rfl))) (fun _ _ _ _ => (pts_one (pt_cmpR op_ne (pv 0) (pv 1) (nomark _)))) (fun _ _ _ _ => (pv 0))) (pss_one (ps_if (pt_cmpR op_isN (pe_cal C_first (hr.mono (by first | decide | omega)) rfl (pa_cons (pv 0) (pa_cons (pe_comp (own := own_clash_c0) (cap := cap_clash_c0) rfl rfl bs_clash_c0 (k_list (K := K) rfl (pv 4)) (fun _ _ _ _ => (pg_name (i := 0) nd_clash_c0 rfl (Or.inl rfl) (Or.inr rfl))) (fun _ _ _ _ => pts_nil) (fun _ _ _ _ => (pe_ix (k_ixL (K := K) rfl) (pv 1) (pv 0) (fun _ _ => rfl)))) pa_nil))) pe_non (nomark _)) (pss_one (ps_set (i := 2) sc_clash.nd rfl (Or.inl rfl) (pv 4))) pss_nil)))) (pss_one (ps_ret (pv 2)))))), ?_⟩
    refine ⟨_, rfl, _, rfl, m, lw, ws, rfl, h1, h8, hW, hlen, hg, fun ho H1 s1 => ?_, fun os r H1 ho fr s1 hr1 => ?_⟩
    · refine ⟨rfl, _, rfl, iteF ?_⟩
      obtain ⟨as, hA, hP⟩ := hW.same s1
      have lenA : as.length = ws.length := Paired.length hP
      refine ⟨_, rfl, lw, _, rfl, .inl (SqL.of hA), ws.length, (by rw [List.length_map, lenA]), by omega, fun la fla => ?_⟩
      have s2 : Same H1 (upd H1 la (.lst ((List.range ws.length).map fun (i : Nat) => V.int i))) := Same.new fla
      refine ⟨_, rfl, lw, _, rfl, .inl (SqL.of (s2 _ _ hA)), (ws.length : Int), (by rw [List.length_map, lenA]), by omega, by omega, for_range (n := ((ws.length : Int)).toNat)
        (fun i σ H2 => ∃ (la : Addr) (u v : Option V), σ = [some (.int m), some (.ref lw), some (.ref la), u, v] ∧ Same H1 H2 ∧ H1 la = none ∧ H2 la = some (.lst ((Sh.cl (noneP m ws) ws.length i).map V.int)))
        ⟨la, none, none, rfl, s2, fla, ?_⟩ ?_ ?_⟩
      · rw [upd_same]
        unfold Sh.cl Sh.rangeI
        rw [List.map_map]
        rfl
      · rintro i σ H2 hi ⟨la, u, v, rfl, s3, fla, hL⟩
        have clen := Sh.cl_len (noneP m ws) ws.length i
        have csub := Sh.cl_sub (noneP m ws) ws.length i
        refine ⟨_, rfl, la, rfl, ⟨_, SqL.of hL⟩, fun lo flo => ?_⟩
        refine c_drop (SqL.of hL) (by omega) flo fun H3 s4 hlo => ?_
        have e0 : (0 : Int) + (i : Int) = (i : Int) := by omega
        rw [e0] at hlo
        have hW3 := hW.same (s1.trans (s3.trans s4))
        refine ⟨_, rfl, _, rfl, lo, rfl, ⟨_, SqL.of hlo⟩, fun lp flp => ?_⟩
        have osub : ∀ x ∈ (Sh.cl (noneP m ws) ws.length i).filter (fun x => decide (x ≠ (i : Int))), 0 ≤ x ∧ x < (ws.length : Int) := fun x hx => csub x (List.mem_filter.mp hx).1
        have olen : ((Sh.cl (noneP m ws) ws.length i).filter (fun x => decide (x ≠ (i : Int)))).length ≤ 100 := Nat.le_trans (List.length_filter_le _ _) (by omega)
        refine c_pick (SqL.of hlo) hW3 osub (by omega) flp fun H4 s5 hW4 => ?_
        have s6 : Same H1 H4 := s3.trans (s4.trans s5)
        refine ⟨m, lp, _, rfl, h1, h8, hW4, (by unfold Sh.pick; rw [List.length_map]; exact olen), Sh.pick_good hg osub, fun ho2 H5 s7 => ?_, fun os2 r2 H5 ho2 fr2 s7 hr2 => ?_⟩
        · refine ⟨rfl, _, rfl, iteT ?_⟩
          refine ⟨_, rfl, lo, _, _, rfl, s6.trans s7, s3.free flo, ?_⟩
          have : Sh.cl (noneP m ws) ws.length (i + 1) = (Sh.cl (noneP m ws) ws.length i).filter (fun x => decide (x ≠ (i : Int))) := by
            show (if noneP m ws _ then _ else _) = _
            rw [if_pos (show noneP m ws _ = true from congrArg Option.isNone ho2)]
          rw [this]
          exact s7 _ _ (s5 _ _ hlo)
        · refine ⟨rfl, _, rfl, iteF ?_⟩
          refine ⟨la, _, _, rfl, s6.trans s7, fla, ?_⟩
          have : Sh.cl (noneP m ws) ws.length (i + 1) = Sh.cl (noneP m ws) ws.length i := by
            show (if noneP m ws _ then _ else _) = _
            rw [if_neg (show ¬ noneP m ws _ = true from fun z => by rw [show noneP m ws _ = false from congrArg Option.isNone ho2] at z; cases z)]
          rw [this]
          exact s7 _ _ (s5 _ _ (s4 _ _ hL))
      · rintro σ H2 ⟨la, u, v, rfl, s3, fla, hL⟩
        have en : ((ws.length : Int)).toNat = ws.length := by omega
        rw [en] at hL
        exact ⟨_, rfl, q1 ho la H2 (s1.free fla) (s1.trans s3) hL⟩
    · refine ⟨rfl, _, rfl, iteT ?_⟩
      exact q0 (by rw [ho]; rfl) H1 s1

end
end K08
namespace K08
open PySem L2
set_option maxRecDepth 100000
set_option maxHeartbeats 4000000
section
variable {P : Program} {w : World} {K : PySem.W.Frag} {mg : Str → Option Value} {base : Heap}
def spSplit (K : PySem.W.Frag) : Sp := fun vs H Q _ => ∃ (lw : Addr) (ws : List (List Int)) (a b c : Int), vs = [.ref lw, .int a, .int b, .int c] ∧ WL H lw ws ∧ Q (.bl (Sh.split ws a b c)) H
theorem ok__law_split (T : Txt K mg) : Cal P w K mg base 1 "_law_split" ["wishes", "a", "b", "c"] (spSplit K) := by
  refine T.d__law_split.ok sc__law_split (fun vs H Q E h => ?_) (fun f cdv A outer s H vs Q E hr h => ?_)
  · obtain ⟨lw, ws, a, b, c, rfl, _⟩ := h
    rfl
  · obtain ⟨lw, ws, a, b, c, rfl, ⟨as, hA, hP⟩, q⟩ := h
    refine ⟨_, (pss_cons (ps_for PassesOwn.never rfl (k_list (K := K) rfl (pv 0)) (pg_name (i := 4) sc__law_split.nd rfl (Or.inl rfl)) (pss_one (ps_if (PW.pt (pw_and (pt_cmpR (k_in (K := K) rfl) (pv 1) (pv 4) rfl) (pw_and (pt_cmpR (k_in (K := K) rfl) (pv 3) (pv 4) rfl) (pw_and1 (pt_cmpR (k_notIn (K := K) rfl) (pv 2) (pv 4) rfl))))) (pss_one (ps_ret pe_bl)) pss_nil))) (pss_one (ps_ret pe_bl))), ?_⟩
    refine ⟨_, rfl, lw, rfl, ⟨_, SqL.of hA⟩, for_list (K := K) (a := lw) (xs := as.map V.ref) (fun i σ H' => ∃ v, σ = [some (.ref lw), some (.int a), some (.int b), some (.int c), v] ∧ H' = H ∧ Sh.split ws a b c = Sh.split (ws.drop i) a b c)
      ⟨none, rfl, rfl, rfl⟩ (fun i σ H' _ ⟨_, _, e, _⟩ => by rw [e]; exact SqL.of hA) ?_ ?_⟩
    · rintro i x σ H' hi ⟨v, rfl, rfl, hs⟩
      rw [List.getElem?_map] at hi
      cases e : as[i]? with
      | none => rw [e] at hi; cases hi
      | some d =>
        rw [e] at hi
        obtain rfl : V.ref d = x := Option.some.inj hi
        obtain ⟨w', k1, k2⟩ := paired_get1 hP e
        have hd : ws.drop i = w' :: ws.drop (i + 1) := by
          obtain ⟨hlt, rfl⟩ := List.getElem?_eq_some_iff.mp k1
          exact List.drop_eq_getElem_cons hlt
        have hs' : Sh.split ws a b c = ((decide (a ∈ w') && (decide (c ∈ w') && !decide (b ∈ w'))) || Sh.split (ws.drop (i + 1)) a b c) := by
          rw [hs, hd]
          rfl
        refine ⟨_, rfl, _, rfl, d, _, rfl, .inl (SqL.of k2), rfl, flat_ints _, _, rfl, ?_⟩
        show if (inV (V.int a) (w'.map V.int)) = true then _ else _
        rw [inV_int]
        refine ite2 (fun z1 => ?_) (fun z1 => ?_)
        · refine ⟨_, rfl, _, rfl, d, _, rfl, .inl (SqL.of k2), rfl, flat_ints _, _, rfl, ?_⟩
          show if (inV (V.int c) (w'.map V.int)) = true then _ else _
          rw [inV_int]
          refine ite2 (fun z2 => ?_) (fun z2 => ?_)
          · refine ⟨_, rfl, _, rfl, d, _, rfl, .inl (SqL.of k2), rfl, flat_ints _, _, rfl, ?_⟩
            show if (!inV (V.int b) (w'.map V.int)) = true then _ else _
            rw [inV_int]
            rw [z1, z2, Bool.true_and, Bool.true_and] at hs'
            refine ite2 (fun z3 => ?_) (fun z3 => ?_)
            · rw [z3, Bool.true_or] at hs'
              rw [hs'] at q
              exact q
            · rw [Bool.not_eq_true] at z3
              rw [z3, Bool.false_or] at hs'
              exact ⟨_, rfl, rfl, hs'⟩
          · rw [Bool.not_eq_true] at z2
            rw [z2, Bool.false_and, Bool.and_false, Bool.false_or] at hs'
            exact iteF ⟨_, rfl, rfl, hs'⟩
        · rw [Bool.not_eq_true] at z1
          rw [z1, Bool.false_and, Bool.false_or] at hs'
          exact iteF ⟨_, rfl, rfl, hs'⟩
    · rintro σ H' ⟨v, rfl, rfl, hs⟩
      rw [List.length_map, Paired.length hP, List.drop_length] at hs
      rw [hs] at q
      exact q

def spLBar (K : PySem.W.Frag) : Sp := fun vs H Q _ => ∃ (lw t u : Addr) (ws : List (List Int)) (p r : Int × Int), vs = [.ref lw, .ref t, .ref u] ∧ WL H lw ws ∧ TurnAt K H t p ∧ TurnAt K H u r ∧ ∀ H', Same H H' → Q (.bl (Sh.lbar ws p r)) H'
theorem ok__law_bar (T : Txt K mg) : Cal P w K mg base 2 "_law_bar" ["wishes", "one", "other"] (spLBar K) := by
  have C__law_split := ok__law_split (P := P) (w := w) (base := base) T
  refine T.d__law_bar.ok sc__law_bar (fun vs H Q E h => ?_) (fun f cdv A outer s H vs Q E hr h => ?_)
  · obtain ⟨lw, t, u, ws, p, r, rfl, _⟩ := h
    rfl
  · obtain ⟨lw, t, u, ws, p, r, rfl, hW, hT, hU, q⟩ := h
    have hu64 := room64 hr
    refine ⟨_, (pss_cons (ps_if (pt_cmpR (k_eqD (K := K) rfl hu64) (pv 1) (pe_tup (pa_cons (pe_ix (k_ixT (K := K) rfl) (pv 2) pe_int (fun _ _ => rfl)) (pa_cons (pe_ix (k_ixT (K := K) rfl) (pv 2) pe_int (fun _ _ => rfl)) pa_nil))) (nomark _)) (pss_one (ps_ret pe_bl)) pss_nil) (pss_cons (ps_if (PW.pt (pw_and (pt_cmpR op_eq (pe_ix (k_ixT (K := K) rfl) (pv 1) pe_int (fun _ _ => rfl)) (pe_ix (k_ixT (K := K) rfl) (pv 2) pe_int (fun _ _ => rfl)) (nomark _)) (pw_and1 (pt_cmpR op_ne (pe_ix (k_ixT (K := K) rfl) (pv 1) pe_int (fun _ _ => rfl)) (pe_ix (k_ixT (K := K) rfl) (pv 2) pe_int (fun _ _ => rfl)) (nomark _))))) (pss_one (ps_ret (pe_cal C__law_split (hr.mono (by first | decide | omega)) rfl (pa_cons (pv 0) (pa_cons (pe_ix (k_ixT (K := K) rfl) (pv 1) pe_int (fun _ _ => rfl)) (pa_cons (pe_ix (k_ixT (K := K) rfl) (pv 1) pe_int (fun _ _ => rfl)) (pa_cons (pe_ix (k_ixT (K := K) rfl) (pv 2) pe_int (fun _ _ => rfl)) pa_nil))))))) pss_nil) (pss_one (ps_ret (pe_and (pe_cmpR op_eq (pe_ix (k_ixT (K := K) rfl) (pv 1) pe_int (fun _ _ => rfl)) (pe_ix (k_ixT (K := K) rfl) (pv 2) pe_int (fun _ _ => rfl)) (nomark _)) (pe_and (pe_cmpR op_ne (pe_ix (k_ixT (K := K) rfl) (pv 1) pe_int (fun _ _ => rfl)) (pe_ix (k_ixT (K := K) rfl) (pv 2) pe_int (fun _ _ => rfl)) (nomark _)) (pe_one (pe_cal C__law_split (hr.mono (by first | decide | omega)) rfl (pa_cons (pv 0) (pa_cons (pe_ix (k_ixT (K := K) rfl) (pv 2) pe_int (fun _ _ => rfl)) (pa_cons (pe_ix (k_ixT (K := K) rfl) (pv 1) pe_int (fun _ _ => rfl)) (pa_cons (pe_ix (k_ixT (K := K) rfl) (pv 1) pe_int (fun _ _ => rfl)) pa_nil)))))))))))), ?_⟩
    refine ⟨_, rfl, _, rfl, u, _, _, _, rfl, rfl, hU, rfl, _, rfl, u, _, _, _, rfl, rfl, hU, rfl, (by show 2 ≤ sizeLine; decide), fun n fn => ?_⟩
    have s1 : Same H (upd H n (.tup [.int r.2, .int r.1])) := Same.new fn
    have q1 := fun H' (s2 : Same (upd H n (.tup [.int r.2, .int r.1])) H') => q H' (s1.trans s2)
    have hT1 := s1.tupq hT
    have hU1 := s1.tupq hU
    have hW1 := hW.same s1
    refine ⟨dP (p.1, p.2), dP (r.2, r.1), dt_P hT1, dt_P (SqT.of upd_same), shaped_P _, shaped_P _, _, rfl, ?_⟩
    show if (PyData.eqv _ _) = true then _ else _
    generalize upd H n (.tup [.int r.2, .int r.1]) = H1 at q1 hT1 hU1 hW1
    rw [eqv_P]
    unfold Sh.lbar at q1
    have q0 := q1 H1 (Same.refl _)
    by_cases e1 : p = (r.2, r.1)
    · rw [if_pos e1] at q0
      rw [decide_eq_true (show (p.1, p.2) = (r.2, r.1) from e1)]
      exact iteT q0
    · rw [if_neg e1] at q0
      rw [decide_eq_false (show ¬ (p.1, p.2) = (r.2, r.1) from e1)]
      refine iteF ?_
      refine ⟨_, rfl, t, _, _, _, rfl, rfl, hT1, rfl, _, rfl, u, _, _, _, rfl, rfl, hU1, rfl, rfl, _, rfl, ?_⟩
      have last : (if p.1 = r.2 then (if p.2 ≠ r.1 then Sh.split ws r.1 p.1 p.2 else false) else false) = Sh.lbar ws p r → tRet (tAndV (tOp rEq (tOp (rIxT K) (tVar 1) (tC (.int 0))) (tOp (rIxT K) (tVar 2) (tC (.int 1)))) (tAndV (tOp rNe (tOp (rIxT K) (tVar 1) (tC (.int 1))) (tOp (rIxT K) (tVar 2) (tC (.int 0))))
          (tCall (spSplit K) [] E0 (tCons (tVar 0) (tCons (tOp (rIxT K) (tVar 2) (tC (.int 0))) (tCons (tOp (rIxT K) (tVar 1) (tC (.int 0))) (tCons (tOp (rIxT K) (tVar 1) (tC (.int 1))) tNil))))))) { nx := fun _ H' => Q .non H', rt := Q } [some (.ref lw), some (.ref t), some (.ref u)] H1 := fun el => by
        have q2 : Q (.bl (if p.1 = r.2 then (if p.2 ≠ r.1 then Sh.split ws r.1 p.1 p.2 else false) else false)) H1 := by
          rw [el]
          unfold Sh.lbar
          rw [if_neg e1]
          exact q0
        refine ⟨_, rfl, t, _, _, _, rfl, rfl, hT1, rfl, _, rfl, u, _, _, _, rfl, rfl, hU1, rfl, rfl, _, rfl, ?_⟩
        by_cases e2 : p.1 = r.2
        · rw [if_pos e2] at q2
          rw [decide_eq_true (congrArg V.int e2)]
          refine iteT ?_
          refine ⟨_, rfl, t, _, _, _, rfl, rfl, hT1, rfl, _, rfl, u, _, _, _, rfl, rfl, hU1, rfl, rfl, _, rfl, ?_⟩
          by_cases e3 : p.2 = r.1
          · rw [if_neg (fun z => z e3)] at q2
            exact iteNS (congrArg V.int e3) q2
          · rw [if_pos e3] at q2
            rw [decide_eq_false fun z => e3 (V.int.inj z)]
            refine iteT ?_
            exact ⟨_, rfl, _, rfl, u, _, _, _, rfl, rfl, hU1, rfl, _, rfl, t, _, _, _, rfl, rfl, hT1, rfl, _, rfl, t, _, _, _, rfl, rfl, hT1, rfl, lw, ws, _, _, _, rfl, hW1, q2⟩
        · rw [if_neg e2] at q2
          rw [decide_eq_false fun z => e2 (V.int.inj z)]
          exact iteF q2
      by_cases e2 : p.2 = r.1
      · rw [decide_eq_true (congrArg V.int e2)]
        refine iteT ?_
        refine ⟨_, rfl, t, _, _, _, rfl, rfl, hT1, rfl, _, rfl, u, _, _, _, rfl, rfl, hU1, rfl, rfl, _, rfl, ?_⟩
        by_cases e3 : p.1 = r.2
        · refine iteNS (congrArg V.int e3) ?_
          exact absurd (show p = (r.2, r.1) by rw [← e3, ← e2]) e1
        · rw [decide_eq_false fun z => e3 (V.int.inj z)]
          rw [if_pos ⟨e2, e3⟩] at q0
          refine iteT ?_
          exact ⟨_, rfl, _, rfl, t, _, _, _, rfl, rfl, hT1, rfl, _, rfl, t, _, _, _, rfl, rfl, hT1, rfl, _, rfl, u, _, _, _, rfl, rfl, hU1, rfl, lw, ws, _, _, _, rfl, hW1, q0⟩
      · rw [decide_eq_false fun z => e2 (V.int.inj z)]
        refine iteF (iteF ?_)
        refine last ?_
        unfold Sh.lbar
        rw [if_neg e1]
        exact (if_neg (fun z => e2 z.1)).symm


end
end K08
namespace K08
open PySem L2
set_option maxRecDepth 100000
set_option maxHeartbeats 4000000
section
variable {P : Program} {w : World} {K : PySem.W.Frag} {mg : Str → Option Value} {base : Heap}
def spWhole : Sp := fun vs H Q _ => ∃ z : Int, vs = [.int z] ∧ Q (.bl true) H
theorem ok__law_whole (T : Txt K mg) : Cal P w K mg base 1 "_law_whole" ["found"] spWhole := by
  refine T.d__law_whole.ok sc__law_whole (fun vs H Q E h => ?_) (fun f cdv A outer s H vs Q E hr h => ?_)
  · obtain ⟨z, rfl, _⟩ := h
    rfl
  · obtain ⟨z, rfl, q⟩ := h
    refine ⟨_, (pss_one (ps_ret (pe_and (pe_callB (k_isinst (K := K) rfl) rfl T.b_isinstance PyProof.Rows.boot_isinstance (pa_cons (pv 0) (pa_cons (pe_bltn (v := .ty "int") rfl T.b_int PyProof.Rows.boot_int rfl) pa_nil))) (pe_one (pe_not (pe_callB (k_isinst (K := K) rfl) rfl T.b_isinstance PyProof.Rows.boot_isinstance (pa_cons (pv 0) (pa_cons (pe_bltn (v := .ty "bool") rfl T.b_bool PyProof.Rows.boot_bool rfl) pa_nil)))))))), ?_⟩
    refine ⟨_, rfl, _, _, _, _, rfl, .int z, kit_same, _, rfl, iteT ?_⟩
    exact ⟨_, rfl, _, _, _, _, rfl, .int z, kit_int_bool, _, rfl, q⟩


end
end K08
namespace K08
open PySem L2
set_option maxRecDepth 100000
set_option maxHeartbeats 4000000
section
variable {P : Program} {w : World} {K : PySem.W.Frag} {mg : Str → Option Value} {base : Heap}
def spIsTurn : Sp := fun vs H Q _ => ∃ (t : Addr) (n : Nat) (p : Tn), vs = [.ref t, .int n] ∧ H t = some (tupT p) ∧ Sh.Turn n p ∧ Q (.bl true) H
theorem ok__law_is_turn (T : Txt K mg) : Cal P w K mg base 2 "_law_is_turn" ["found", "many"] spIsTurn := by
  have C__law_whole := ok__law_whole (P := P) (w := w) (base := base) T
  refine T.d__law_is_turn.ok sc__law_is_turn (fun vs H Q E h => ?_) (fun f cdv A outer s H vs Q E hr h => ?_)
  · obtain ⟨t, n, p, rfl, _⟩ := h
    rfl
  · obtain ⟨t, n, p, rfl, hT, tp, q⟩ := h
    refine ⟨_, (pss_cons (ps_if (PW.pt (pw_or (pt_not (pt_val (pe_callB (k_isinst (K := K) rfl) rfl T.b_isinstance PyProof.Rows.boot_isinstance (pa_cons (pv 0) (pa_cons (pe_bltn (v := .ty "tuple") rfl T.b_tuple PyProof.Rows.boot_tuple rfl) pa_nil))))) (pw_or (pt_cmpR op_ne (pe_callB (k_len (K := K) rfl) rfl T.b_len PySem.boot_len (pa_cons (pv 0) pa_nil)) pe_int (nomark _)) (pw_or (pt_not (pt_val (pe_cal C__law_whole (hr.mono (by first | decide | omega)) rfl (pa_cons (pe_ix (k_ixT (K := K) rfl) (pv 0) pe_int (fun _ _ => rfl)) pa_nil)))) (pw_or1 (pt_not (pt_val (pe_cal C__law_whole (hr.mono (by first | decide | omega)) rfl (pa_cons (pe_ix (k_ixT (K := K) rfl) (pv 0) pe_int (fun _ _ => rfl)) pa_nil))))))))) (pss_one (ps_ret pe_bl)) pss_nil) (pss_one (ps_ret (pe_and (pe_chain op_le op_lt pe_int (pe_ix (k_ixT (K := K) rfl) (pv 0) pe_int (fun _ _ => rfl)) (pv 1)) (pe_and (pe_chain op_le op_lt pe_int (pe_ix (k_ixT (K := K) rfl) (pv 0) pe_int (fun _ _ => rfl)) (pv 1)) (pe_one (pe_cmpR op_ne (pe_ix (k_ixT (K := K) rfl) (pv 0) pe_int (fun _ _ => rfl)) (pe_ix (k_ixT (K := K) rfl) (pv 0) pe_int (fun _ _ => rfl)) (nomark _)))))))), ?_⟩
    refine ⟨_, rfl, _, _, _, _, rfl, .tup hT, kit_same, _, rfl, iteF ?_⟩
    refine ⟨_, rfl, t, _, rfl, .inr (SqT.of hT), rfl, _, rfl, iteNS rfl ?_⟩
    refine ⟨_, rfl, t, _, _, _, rfl, rfl, SqT.of hT, rfl, _, rfl, _, rfl, iteF ?_⟩
    refine ⟨_, rfl, t, _, _, _, rfl, rfl, SqT.of hT, rfl, _, rfl, _, rfl, iteF ?_⟩
    refine ⟨_, rfl, t, _, _, _, rfl, rfl, SqT.of hT, rfl, _, _, rfl, rfl, _, rfl, ?_⟩
    rw [if_pos (decide_eq_true tp.a0)]
    refine ⟨_, rfl, _, _, rfl, rfl, _, rfl, ?_⟩
    rw [decide_eq_true tp.a1]
    refine iteT ?_
    refine ⟨_, rfl, t, _, _, _, rfl, rfl, SqT.of hT, rfl, _, _, rfl, rfl, _, rfl, ?_⟩
    rw [if_pos (decide_eq_true tp.b0)]
    refine ⟨_, rfl, _, _, rfl, rfl, _, rfl, ?_⟩
    rw [decide_eq_true tp.b1]
    refine iteT ?_
    refine ⟨_, rfl, t, _, _, _, rfl, rfl, SqT.of hT, rfl, _, rfl, t, _, _, _, rfl, rfl, SqT.of hT, rfl, rfl, ?_⟩
    rw [decide_eq_false fun e => tp.ne (V.int.inj e)]
    exact q


end
end K08
namespace K08
open PySem L2
set_option maxRecDepth 100000
set_option maxHeartbeats 4000000
section
variable {P : Program} {w : World} {K : PySem.W.Frag} {mg : Str → Option Value} {base : Heap}
def spTog (K : PySem.W.Frag) : Sp := fun vs H Q _ => ∃ (o b : Addr) (os ns : List Int), vs = [.ref o, .ref b] ∧ SqL K H o (os.map V.int) ∧ SqL K H b (ns.map V.int) ∧ os.length ≤ 100 ∧ ∀ H', Same H H' → Q (.bl (Sh.tog os ns)) H'
theorem ok__law_together (T : Txt K mg) : Cal P w K mg base 1 "_law_together" ["order", "wish"] (spTog K) := by
  refine T.d__law_together.ok sc__law_together (fun vs H Q E h => ?_) (fun f cdv A outer s H vs Q E hr h => ?_)
  · obtain ⟨o, b, os, ns, rfl, _⟩ := h
    rfl
  · obtain ⟨o, b, os, ns, rfl, hO, hB, hl, q⟩ := h
    refine ⟨_, (pss_cons (ps_set (i := 2) sc__law_together.nd rfl (Or.inl rfl) pe_bl) (pss_cons (ps_set (i := 3) sc__law_together.nd rfl (Or.inl rfl) pe_bl) (pss_cons (ps_for PassesOwn.never rfl (k_list (K := K) rfl (pv 0)) (pg_name (i := 4) sc__law_together.nd rfl (Or.inl rfl)) (pss_one (ps_if (pt_cmpR (k_in (K := K) rfl) (pv 4) (pv 1) rfl) (pss_cons (ps_if (pt_val (pv 3)) (pss_one (ps_ret pe_bl)) pss_nil) (pss_one (ps_set (i := 2) sc__law_together.nd rfl (Or.inl rfl) pe_bl))) (pss_one (ps_if (pt_val (pv 2)) (pss_one (ps_set (i := 3) sc__law_together.nd rfl (Or.inl rfl) pe_bl)) pss_nil))))) (pss_one (ps_ret pe_bl))))), ?_⟩
    refine ⟨_, rfl, o, rfl, ⟨_, hO⟩, for_list (K := K) (a := o) (xs := os.map V.int) (fun i σ H' => ∃ (bg ov : Bool) (v : Option V), σ = [some (.ref o), some (.ref b), some (.bl bg), some (.bl ov), v] ∧ H' = H ∧ Sh.scan (fun b => decide (b ∈ ns)) false false os = Sh.scan (fun b => decide (b ∈ ns)) bg ov (os.drop i))
      ⟨false, false, none, rfl, rfl, rfl⟩ (fun i σ H' _ ⟨_, _, _, _, e, _⟩ => by rw [e]; exact hO) ?_ ?_⟩
    · rintro i x σ H' hi ⟨bg, ov, v, rfl, rfl, hs⟩
      rw [List.getElem?_map] at hi
      cases e : os[i]? with
      | none => rw [e] at hi; cases hi
      | some z =>
        rw [e] at hi
        obtain rfl : V.int z = x := Option.some.inj hi
        have hd : os.drop i = z :: os.drop (i + 1) := by
          obtain ⟨hlt, rfl⟩ := List.getElem?_eq_some_iff.mp e
          exact List.drop_eq_getElem_cons hlt
        rw [hd] at hs
        simp only [Sh.scan] at hs
        refine ⟨_, rfl, _, rfl, b, _, rfl, .inl hB, rfl, flat_ints ns, _, rfl, ?_⟩
        show if (inV (V.int z) (ns.map V.int)) = true then _ else _
        rw [inV_int]
        refine ite2 (fun hz => ?_) (fun hz => ?_)
        · rw [if_pos hz] at hs
          refine ⟨_, rfl, _, rfl, ?_⟩
          cases ov with
          | true =>
            refine iteT ?_
            rw [if_pos rfl] at hs
            have := q H' (Same.refl _)
            rw [show Sh.tog os ns = false from hs] at this
            exact this
          | false =>
            refine iteF ?_
            rw [if_neg Bool.false_ne_true] at hs
            exact ⟨true, false, _, rfl, rfl, hs⟩
        · rw [if_neg hz] at hs
          refine ⟨_, rfl, _, rfl, ?_⟩
          cases bg with
          | true =>
            refine iteT ?_
            rw [if_pos rfl] at hs
            exact ⟨true, true, _, rfl, rfl, hs⟩
          | false =>
            refine iteF ?_
            rw [if_neg Bool.false_ne_true] at hs
            exact ⟨false, ov, _, rfl, rfl, hs⟩
    · rintro σ H' ⟨bg, ov, v, rfl, rfl, hs⟩
      rw [List.length_map, List.drop_length] at hs
      have := q H' (Same.refl _)
      rw [show Sh.tog os ns = true from hs] at this
      exact this

def spKeeps (K : PySem.W.Frag) : Sp := fun vs H Q _ => ∃ (o lw : Addr) (os : List Int) (ws : List (List Int)), vs = [.ref o, .ref lw] ∧ SqL K H o (os.map V.int) ∧ WL H lw ws ∧ os.length ≤ 100 ∧ ∀ H', Same H H' → Q (.bl (Sh.Kp ws os)) H'
theorem kp_take {ws : List (List Int)} {os : List Int} {i : Nat} {wi : List Int} (e : ws[i]? = some wi) : Sh.Kp (ws.take (i + 1)) os = (Sh.Kp (ws.take i) os && Sh.tog os wi) := by
  unfold Sh.Kp
  rw [List.take_add_one, e, List.all_append]
  simp
theorem kp_no {ws : List (List Int)} {os : List Int} {i : Nat} {wi : List Int} (e : ws[i]? = some wi) (h : Sh.tog os wi = false) : Sh.Kp ws os = false := by
  unfold Sh.Kp
  rw [List.all_eq_false]
  exact ⟨wi, List.mem_of_getElem? e, by rw [h]; simp⟩
theorem ok__law_keeps (T : Txt K mg) : Cal P w K mg base 2 "_law_keeps" ["order", "wishes"] (spKeeps K) := by
  have C__law_together := ok__law_together (P := P) (w := w) (base := base) T
  refine T.d__law_keeps.ok sc__law_keeps (fun vs H Q E h => ?_) (fun f cdv A outer s H vs Q E hr h => ?_)
  · obtain ⟨o, b, os, ns, rfl, _⟩ := h
    rfl
  · obtain ⟨o, lw, os, ws, rfl, hO, ⟨as, hA, hP⟩, hl, q⟩ := h
    refine ⟨_, (pss_cons (ps_for PassesOwn.never rfl (k_list (K := K) rfl (pv 1)) (pg_name (i := 2) sc__law_keeps.nd rfl (Or.inl rfl)) (pss_one (ps_if (pt_not (pt_val (pe_cal C__law_together (hr.mono (by first | decide | omega)) rfl (pa_cons (pv 0) (pa_cons (pv 2) pa_nil))))) (pss_one (ps_ret pe_bl)) pss_nil))) (pss_one (ps_ret pe_bl))), ?_⟩
    refine ⟨_, rfl, lw, rfl, ⟨_, SqL.of hA⟩, for_list (K := K) (a := lw) (xs := as.map V.ref) (fun i σ H' => ∃ (v : Option V), σ = [some (.ref o), some (.ref lw), v] ∧ Same H H' ∧ Sh.Kp (ws.take i) os = true)
      ⟨none, rfl, Same.refl H, rfl⟩ (fun i σ H' _ ⟨_, _, s1, _⟩ => SqL.of (s1 _ _ hA)) ?_ ?_⟩
    · rintro i x σ H' hi ⟨v, rfl, s1, hk⟩
      rw [List.getElem?_map] at hi
      cases e : as[i]? with
      | none => rw [e] at hi; cases hi
      | some b =>
        rw [e] at hi
        obtain rfl : V.ref b = x := Option.some.inj hi
        obtain ⟨wi, h1, h2⟩ := paired_get1 hP e
        refine ⟨_, rfl, _, rfl, o, b, os, wi, rfl, s1.seq hO, SqL.of (s1 _ _ h2), hl, fun H2 s2 => ⟨_, rfl, ?_⟩⟩
        cases ht : Sh.tog os wi with
        | true =>
          refine iteF ?_
          exact ⟨_, rfl, s1.trans s2, by rw [kp_take h1, hk, ht]; rfl⟩
        | false =>
          refine iteT ?_
          have := q H2 (s1.trans s2)
          rw [kp_no h1 ht] at this
          exact this
    · rintro σ H' ⟨v, rfl, s1, hk⟩
      rw [List.length_map, Paired.length hP, List.take_length] at hk
      have := q H' s1
      rw [hk] at this
      exact this


end
end K08
namespace K08
open PySem L2
set_option maxRecDepth 100000
set_option maxHeartbeats 4000000
section
variable {P : Program} {w : World} {K : PySem.W.Frag} {mg : Str → Option Value} {base : Heap}
def spIsO (K : PySem.W.Frag) : Sp := fun vs H Q _ => ∃ (o : Addr) (os : List Int) (many : Nat), vs = [.ref o, .int many] ∧ many ≤ 8 ∧ H o = some (.lst (os.map V.int)) ∧ Sh.IsO many os ∧ ∀ H', Same H H' → Q (.bl true) H'
theorem ok__law_is_order (T : Txt K mg) : Cal P w K mg base 2 "_law_is_order" ["found", "many"] (spIsO K) := by
  have C__law_whole := ok__law_whole (P := P) (w := w) (base := base) T
  refine T.d__law_is_order.ok sc__law_is_order (fun vs H Q E h => ?_) (fun f cdv A outer s H vs Q E hr h => ?_)
  · obtain ⟨o, os, m, rfl, _⟩ := h
    rfl
  · obtain ⟨o, os, m, rfl, h8, hO, ho, q⟩ := h
    have hu64 := room64 hr
    refine ⟨_, (pss_cons (ps_if (PW.pt (pw_or (pt_not (pt_val (pe_callB (k_isinst (K := K) rfl) rfl T.b_isinstance PyProof.Rows.boot_isinstance (pa_cons (pv 0) (pa_cons (pe_bltn (v := .ty "list") rfl T.b_list PyProof.Rows.boot_list rfl) pa_nil))))) (pw_or1 (pt_cmpR op_ne (pe_callB (k_len (K := K) rfl) rfl T.b_len PySem.boot_len (pa_cons (pv 0) pa_nil)) (pv 1) (nomark _))))) (pss_one (ps_ret pe_bl)) pss_nil) (pss_cons (ps_for PassesOwn.never rfl (k_list (K := K) rfl (pv 0)) (pg_name (i := 2) sc__law_is_order.nd rfl (Or.inl rfl)) (pss_one (ps_if (pt_not (pt_val (pe_cal C__law_whole (hr.mono (by first | decide | omega)) rfl (pa_cons (pv 2) pa_nil)))) (pss_one (ps_ret pe_bl)) pss_nil))) (pss_one (ps_ret (pe_cmpR (k_eqD (K := K) rfl hu64) (pe_callB (k_sorted (K := K) rfl) rfl T.b_sorted PyProof.Rows.boot_sorted (pa_cons (pv 0) pa_nil)) (pe_listRange rfl T.b_list rfl T.b_range rfl (pv 1)) (nomark _)))))), ?_⟩
    have hl := ho.len
    refine ⟨_, rfl, _, _, _, _, rfl, .lst hO, kit_same, _, rfl, iteF ?_⟩
    refine ⟨_, rfl, o, _, rfl, .inl (SqL.of hO), _, rfl, rfl, _, rfl, ?_⟩
    rw [List.length_map, hl]
    refine iteNS rfl ?_
    refine ⟨_, rfl, o, rfl, ⟨_, SqL.of hO⟩, for_list (K := K) (a := o) (xs := os.map V.int) (fun i σ H' => ∃ (v : Option V), σ = [some (.ref o), some (.int m), v] ∧ H' = H) ⟨none, rfl, rfl⟩ (fun i σ H' _ ⟨_, _, e⟩ => by rw [e]; exact SqL.of hO) ?_ ?_⟩
    · rintro i x σ H' hi ⟨v, rfl, rfl⟩
      rw [List.getElem?_map] at hi
      cases e : os[i]? with
      | none => rw [e] at hi; cases hi
      | some z =>
        rw [e] at hi
        obtain rfl : V.int z = x := Option.some.inj hi
        exact ⟨_, rfl, z, rfl, _, rfl, iteF ⟨_, rfl, rfl⟩⟩
    · rintro σ H' ⟨v, rfl, rfl⟩
      refine ⟨_, rfl, o, os, rfl, SqL.of hO, by omega, fun l ms fl p1 p2 => ?_⟩
      refine ⟨_, rfl, m, rfl, by omega, fun l2 fl2 => ?_⟩
      have n2 : l ≠ l2 := fun e => by rw [← e, upd_same] at fl2; cases fl2
      have e : ms = Sh.rangeI m := Sh.sorted_unique (p1.trans ho) p2 (Sh.rangeI_sorted m)
      subst e
      refine ⟨dI (Sh.rangeI m), dI (Sh.rangeI m), dt_I (SqL.of (by rw [upd_ne n2]; exact upd_same)), dt_I (SqL.of ?_), shaped_I _, shaped_I _, ?_⟩
      · rw [upd_same]
        unfold Sh.rangeI
        rw [List.map_map]
        rfl
      · show Q (.bl (PyData.eqv _ _)) _
        rw [eqv_I, decide_eq_true rfl]
        exact q _ ((Same.new fl).trans (Same.new fl2))

end
end K08
namespace K08
open PySem L2
set_option maxRecDepth 100000
set_option maxHeartbeats 4000000
section
variable {P : Program} {w : World} {K : PySem.W.Frag} {mg : Str → Option Value} {base : Heap}
def spIsRing : Sp := fun vs H Q _ => ∃ (l : Addr) (m : Nat) (lw : Addr) (c : List Tn) (ws : List (List Int)), vs = [.ref l, .int m, .ref lw] ∧ m ≤ 8 ∧ TL H l c ∧ WL H lw ws ∧ Sh.IsRing m ws c ∧ c.length ≤ 113 ∧ ∀ H', Same H H' → Q (.bl true) H'
theorem ok__law_is_ring (T : Txt K mg) : Cal P w K mg base 3 "_law_is_ring" ["found", "many", "wishes"] spIsRing := by
  have C__law_is_turn := ok__law_is_turn (P := P) (w := w) (base := base) T
  have C__law_bar := ok__law_bar (P := P) (w := w) (base := base) T
  refine T.d__law_is_ring.ok sc__law_is_ring (fun vs H Q E h => ?_) (fun f cdv A outer s H vs Q E hr h => ?_)
  · obtain ⟨l, m, lw, c, ws, rfl, _⟩ := h
    rfl
  · obtain ⟨l, m, lw, c, ws, rfl, h8, ⟨as, hL, hP⟩, hW, R, h113, q⟩ := h
    refine ⟨_, (pss_cons (ps_if (PW.pt (pw_or (pt_not (pt_val (pe_callB (k_isinst (K := K) rfl) rfl T.b_isinstance PyProof.Rows.boot_isinstance (pa_cons (pv 0) (pa_cons (pe_bltn (v := .ty "list") rfl T.b_list PyProof.Rows.boot_list rfl) pa_nil))))) (pw_or (pt_cmpR op_lt (pe_callB (k_len (K := K) rfl) rfl T.b_len PySem.boot_len (pa_cons (pv 0) pa_nil)) pe_int (nomark _)) (pw_or1 (pt_cmpR op_eq (pe_op op_mod (pe_callB (k_len (K := K) rfl) rfl T.b_len PySem.boot_len (pa_cons (pv 0) pa_nil)) pe_int) pe_int (nomark _)))))) (pss_one (ps_ret pe_bl)) pss_nil) (pss_cons (ps_for PassesOwn.never rfl (k_list (K := K) rfl (pv 0)) (pg_name (i := 3) sc__law_is_ring.nd rfl (Or.inl rfl)) (pss_one (ps_if (pt_not (pt_val (pe_cal C__law_is_turn (hr.mono (by first | decide | omega)) rfl (pa_cons (pv 3) (pa_cons (pv 1) pa_nil))))) (pss_one (ps_ret pe_bl)) pss_nil))) (pss_cons (ps_for PassesOwn.never rfl (pi_range1 rfl T.b_range (pa_cons (pe_callB (k_len (K := K) rfl) rfl T.b_len PySem.boot_len (pa_cons (pv 0) pa_nil)) pa_nil)) (pg_name (i := 4) sc__law_is_ring.nd rfl (Or.inl rfl)) (pss_one (ps_if (pt_not (pt_val (pe_cal C__law_bar (hr.mono (by first | decide | omega)) rfl (pa_cons (pv 2) (pa_cons (pe_ix (k_ixL (K := K) rfl) (pv 0) (pe_op op_sub (pv 4) pe_int) (fun _ _ => rfl)) (pa_cons (pe_ix (k_ixL (K := K) rfl) (pv 0) (pv 4) (fun _ _ => rfl)) pa_nil)))))) (pss_one (ps_ret pe_bl)) pss_nil))) (pss_one (ps_ret pe_bl))))), ?_⟩
    have lenA : as.length = c.length := Paired.length hP
    have l3 := R.l3
    have lodd := R.odd
    refine ⟨_, rfl, _, _, _, _, rfl, .lst hL, kit_same, _, rfl, iteF ?_⟩
    refine ⟨_, rfl, l, _, rfl, .inl (SqL.of hL), _, _, rfl, rfl, _, rfl, ?_⟩
    rw [List.length_map, lenA]
    refine ite2 (fun z => absurd (of_decide_eq_true z) (by omega)) (fun _ => ?_)
    refine ⟨_, rfl, l, _, rfl, .inl (SqL.of hL), _, _, rfl, rfl, (by show (0 : Int) < 2; decide), rfl, _, rfl, ?_⟩
    rw [List.length_map, lenA]
    refine ite2 (fun z => absurd (V.int.inj (of_decide_eq_true z)) (by omega)) (fun _ => ?_)
    refine ⟨_, rfl, l, rfl, ⟨_, SqL.of hL⟩, for_list (K := K) (a := l) (xs := as.map V.ref) (fun i σ H' => ∃ (v w : Option V), σ = [some (.ref l), some (.int m), some (.ref lw), v, w] ∧ H' = H) ⟨none, none, rfl, rfl⟩ (fun i σ H' _ ⟨_, _, _, e⟩ => by rw [e]; exact SqL.of hL) ?_ ?_⟩
    · rintro i x σ H' hi ⟨v, w', rfl, rfl⟩
      rw [List.getElem?_map] at hi
      cases e : as[i]? with
      | none => rw [e] at hi; cases hi
      | some a =>
        rw [e] at hi
        obtain rfl : V.ref a = x := Option.some.inj hi
        obtain ⟨p, e1, e2⟩ := paired_get1 hP e
        exact ⟨_, rfl, _, rfl, a, m, p, rfl, e2, R.tn p (List.mem_of_getElem? e1), _, rfl, iteF ⟨_, _, rfl, rfl⟩⟩
    · rintro σ H' ⟨v, w', rfl, rfl⟩
      refine ⟨_, rfl, l, _, rfl, .inl (SqL.of hL), (c.length : Int), (by rw [List.length_map, lenA]), by omega, by omega, for_range (n := ((c.length : Int)).toNat) (fun i σ H2 => ∃ (w : Option V), σ = [some (.ref l), some (.int m), some (.ref lw), v, w] ∧ Same H' H2) ⟨w', rfl, Same.refl _⟩ ?_ ?_⟩
      · rintro i σ H2 hi ⟨w2, rfl, s2⟩
        have hi : i < c.length := by omega
        have e0 : (0 : Int) + (i : Int) = (i : Int) := by omega
        rw [e0]
        obtain ⟨a1, ha1, hp1⟩ := paired_get (i := i) (b := c[i]) hP (List.getElem?_eq_getElem hi)
        have b1 : atI (as.map V.ref) (i : Int) = some (V.ref a1) := atI_nat (by rw [List.getElem?_map, ha1]; rfl)
        have prev : ∃ a0 p0, atI (as.map V.ref) ((i : Int) - 1) = some (V.ref a0) ∧ H' a0 = some (tupT p0) ∧ Sh.Turn m p0 ∧ Sh.bars ws p0 c[i] = true := by
          cases i with
          | zero =>
            obtain ⟨x, z, hx, hz, hxz⟩ := R.cl
            rw [List.getLast?_eq_getElem?] at hz
            obtain ⟨a0, ha0, hp0⟩ := paired_get (i := c.length - 1) (b := z) hP hz
            refine ⟨a0, z, ?_, hp0, R.tn z (List.mem_of_getElem? hz), ?_⟩
            · have ea : as = as.dropLast ++ [a0] := by
                have hne : as ≠ [] := fun e => by rw [e] at lenA; simp at lenA; omega
                have h3 := List.dropLast_concat_getLast hne
                have h4 : as.getLast hne = a0 := by
                  have := List.getLast?_eq_some_getLast hne
                  rw [List.getLast?_eq_getElem?, lenA, ha0] at this
                  exact (Option.some.inj this).symm
                rw [h4] at h3
                exact h3.symm
              have em : as.map V.ref = as.dropLast.map V.ref ++ [V.ref a0] := by
                rw [← List.map_singleton (f := V.ref), ← List.map_append, ← ea]
              rw [em]
              exact atI_last (as.dropLast.map V.ref) (V.ref a0)
            · rw [List.head?_eq_getElem?, List.getElem?_eq_getElem hi] at hx
              rw [Option.some.inj hx]
              exact (Sh.mem_nbT.mp hxz).2
          | succ j =>
            have hj : j < c.length := by omega
            obtain ⟨a0, ha0, hp0⟩ := paired_get (i := j) (b := c[j]) hP (List.getElem?_eq_getElem hj)
            refine ⟨a0, c[j], ?_, hp0, R.tn _ (List.getElem_mem hj), ?_⟩
            · rw [show ((j + 1 : Nat) : Int) - 1 = (j : Int) by omega]
              exact atI_nat (by rw [List.getElem?_map, ha0]; rfl)
            · exact (Sh.mem_nbT.mp (R.ln.at (i := j) (List.getElem?_eq_getElem hj) (List.getElem?_eq_getElem hi))).2
        obtain ⟨a0, p0, b0, hp0, tp0, hbar⟩ := prev
        refine ⟨_, rfl, _, rfl, _, rfl, _, _, rfl, rfl, l, _, _, _, rfl, rfl, SqL.of (s2 _ _ hL), b0, _, rfl, _, rfl, l, _, _, _, rfl, rfl, SqL.of (s2 _ _ hL), b1, lw, a0, a1, ws, p0, c[i], rfl, hW.same s2, SqT.of (s2 _ _ hp0), SqT.of (s2 _ _ hp1), fun H3 s3 => ⟨_, rfl, ?_⟩⟩
        rw [Sh.lbar_eq ws tp0.ne (R.tn _ (List.getElem_mem hi)).ne, hbar]
        exact iteF ⟨_, rfl, s2.trans s3⟩
      · rintro σ H2 ⟨w2, rfl, s2⟩
        exact q H2 s2

end
end K08
namespace K08
open PySem L2
set_option maxRecDepth 100000
set_option maxHeartbeats 4000000
section
variable {P : Program} {w : World} {K : PySem.W.Frag} {mg : Str → Option Value} {base : Heap}
theorem ring_or {m : Nat} {ws : List (List Int)} (hg : ∀ w ∈ ws, Sh.Good m w) (h : Sh.fst m ws = none) (C : Sh.Col m ws) : False := by
  obtain ⟨os, ho, hk⟩ := Sh.col_order (Sh.good_inB hg) C
  exact (Sh.fst_none (Sh.good_inB hg)).mp h os ho hk
def spLeft : Sp := fun vs H Q _ => ∃ (m : Nat) (lw : Addr) (ws : List (List Int)), vs = [.int m, .ref lw] ∧ 1 ≤ m ∧ m ≤ 8 ∧ WL H lw ws ∧ ws.length ≤ 100 ∧ (∀ w ∈ ws, Sh.Good m w) ∧ ∀ r H', Same H H' → H' r = some (.lst ((Sh.cl (noneP m ws) ws.length ws.length).map V.int)) → Q (.ref r) H'
theorem ok__law_left (T : Txt K mg) : Cal P w K mg base 21 "_law_left" ["many", "wishes"] spLeft := by
  have C_first := ok_first (P := P) (w := w) (base := base) T
  have C_odd_ring := ok_odd_ring (P := P) (w := w) (base := base) T
  have C__law_is_ring := ok__law_is_ring (P := P) (w := w) (base := base) T
  have C__law_is_order := ok__law_is_order (P := P) (w := w) (base := base) T
  have C__law_keeps := ok__law_keeps (P := P) (w := w) (base := base) T
  refine T.d__law_left.ok sc__law_left (fun vs H Q E h => ?_) (fun f cdv A outer s H vs Q E hr h => ?_)
  · obtain ⟨m, lw, ws, rfl, _⟩ := h
    rfl
  · obtain ⟨m, lw, ws, rfl, h1, h8, hW, hlen, hg, q⟩ := h
    refine ⟨_, (pss_cons (ps_set (i := 2) sc__law_left.nd rfl (Or.inl rfl) (pe_listRange rfl T.b_list rfl T.b_range rfl (pe_callB (k_len (K := K) rfl) rfl T.b_len PySem.boot_len (pa_cons (pv 1) pa_nil)))) (pss_cons (ps_for PassesOwn.never rfl (pi_range1 rfl T.b_range (pa_cons (pe_callB (k_len (K := K) rfl) rfl T.b_len PySem.boot_len (pa_cons (pv 1) pa_nil)) pa_nil)) (pg_name (i := 3) sc__law_left.nd rfl (Or.inr rfl)) (pss_cons (ps_comp (i := 4) (own := own__law_left_c1) (cap := cap__law_left_c1) rfl rfl bs__law_left_c1 sc__law_left.nd rfl rfl rfl (k_list (K := K) rfl (pv 2)) (fun _ _ _ _ => (pg_name (i := 0) nd__law_left_c1 rfl (Or.inl rfl) (Or.inr rfl))) (fun _ _ _ _ => (pts_one (pt_cmpR op_ne (pv 0) (pv 1) (nomark _)))) (fun _ _ _ _ => (pv 0))) (pss_cons (ps_comp (i := 5) (own := own__law_left_c0) (cap := cap__law_left_c0) rfl rfl bs__law_left_c0 sc__law_left.nd rfl rfl rfl (k_list (K := K) rfl (pv 4)) (fun _ _ _ _ => (pg_name (i := 0) nd__law_left_c0 rfl (Or.inl rfl) (Or.inr rfl))) (fun _ _ _ _ => pts_nil) (fun _ _ _ _ => (pe_ix (k_ixL (K := K) rfl) (pv 1) (pv 0) (fun _ _ => rfl)))) (pss_cons (ps_set (i := 6) sc__law_left.nd rfl (Or.inl rfl) (pe_cal C_first (hr.mono (by first | decide | omega)) rfl (pa_cons (pv 0) (pa_cons (pv 5) pa_nil)))) (pss_one (ps_if (pt_cmpR op_isN (pv 6) pe_non (nomark _)) (pss_cons (ps_if (pt_not (pt_val (pe_cal C__law_is_ring (hr.mono (by first | decide | omega)) rfl (pa_cons (pe_cal C_odd_ring (hr.mono (by first | decide | omega)) rfl (pa_cons (pv 0) (pa_cons (pv 5) pa_nil))) (pa_cons (pv 0) (pa_cons (pv 5) pa_nil)))))) (pss_one (ps_ret pe_non)) pss_nil) (pss_one (ps_set (i := 2) sc__law_left.nd rfl (Or.inl rfl) (pv 4)))) (pss_one (ps_if (PW.pt (pw_or (pt_not (pt_val (pe_cal C__law_is_order (hr.mono (by first | decide | omega)) rfl (pa_cons (pv 6) (pa_cons (pv 0) pa_nil))))) (pw_or1 (pt_not (pt_val (pe_cal C__law_keeps (hr.mono (by first | decide | omega)) rfl (pa_cons (pv 6) (pa_cons (pv 5) pa_nil)))))))) (pss_one (ps_ret pe_non)) pss_nil)))))))) (pss_one (ps_ret (pv 2))))), ?_⟩
    obtain ⟨as, hA, hP⟩ := id hW
    have lenA : as.length = ws.length := Paired.length hP
    refine ⟨_, rfl, lw, _, rfl, .inl (SqL.of hA), ws.length, (by rw [List.length_map, lenA]), by omega, fun la fla => ?_⟩
    have s2 : Same H (upd H la (.lst ((List.range ws.length).map fun (i : Nat) => V.int i))) := Same.new fla
    refine ⟨_, rfl, lw, _, rfl, .inl (SqL.of (s2 _ _ hA)), (ws.length : Int), (by rw [List.length_map, lenA]), by omega, by omega, for_range (n := ((ws.length : Int)).toNat)
      (fun i σ H2 => ∃ (la : Addr) (u v w x : Option V), σ = [some (.int m), some (.ref lw), some (.ref la), u, v, w, x] ∧ Same H H2 ∧ H2 la = some (.lst ((Sh.cl (noneP m ws) ws.length i).map V.int)))
      ⟨la, none, none, none, none, rfl, s2, ?_⟩ ?_ ?_⟩
    · rw [upd_same]
      unfold Sh.cl Sh.rangeI
      rw [List.map_map]
      rfl
    · rintro i σ H2 hi ⟨la, u, v, w', x, rfl, s3, hL⟩
      have clen := Sh.cl_len (noneP m ws) ws.length i
      have csub := Sh.cl_sub (noneP m ws) ws.length i
      refine ⟨_, rfl, la, rfl, ⟨_, SqL.of hL⟩, fun lo flo => ?_⟩
      refine c_drop (SqL.of hL) (by omega) flo fun H3 s4 hlo => ?_
      have e0 : (0 : Int) + (i : Int) = (i : Int) := by omega
      rw [e0] at hlo
      have hW3 := hW.same (s3.trans s4)
      refine ⟨_, rfl, lo, rfl, ⟨_, SqL.of hlo⟩, fun lp flp => ?_⟩
      have osub : ∀ x ∈ (Sh.cl (noneP m ws) ws.length i).filter (fun x => decide (x ≠ (i : Int))), 0 ≤ x ∧ x < (ws.length : Int) := fun x hx => csub x (List.mem_filter.mp hx).1
      have olen : ((Sh.cl (noneP m ws) ws.length i).filter (fun x => decide (x ≠ (i : Int)))).length ≤ 100 := Nat.le_trans (List.length_filter_le _ _) (by omega)
      refine c_pick (SqL.of hlo) hW3 osub (by omega) flp fun H4 s5 hW4 => ?_
      have s6 : Same H H4 := s3.trans (s4.trans s5)
      have pg := Sh.pick_good hg osub
      have plen : (Sh.pick ws ((Sh.cl (noneP m ws) ws.length i).filter fun x => decide (x ≠ (i : Int)))).length ≤ 100 := by unfold Sh.pick; rw [List.length_map]; exact olen
      refine ⟨_, rfl, _, rfl, m, lp, _, rfl, h1, h8, hW4, plen, pg, fun ho2 H5 s7 => ?_, fun os2 r2 H5 ho2 fr2 s7 hr2 => ?_⟩
      · refine ⟨_, rfl, rfl, _, rfl, iteT ?_⟩
        refine ⟨_, rfl, _, rfl, m, lp, _, rfl, h8, hW4.same s7, plen, pg, fun C => (ring_or pg ho2 C).elim, fun l c H6 fl s8 hTL R h113 => ?_⟩
        refine ⟨_, rfl, _, rfl, l, m, lp, c, _, rfl, h8, hTL, hW4.same (s7.trans s8), R, h113, fun H7 s9 => ⟨_, rfl, iteF ?_⟩⟩
        refine ⟨_, rfl, lo, _, _, _, _, rfl, s6.trans (s7.trans (s8.trans s9)), ?_⟩
        rw [show Sh.cl (noneP m ws) ws.length (i + 1) = (Sh.cl (noneP m ws) ws.length i).filter (fun x => decide (x ≠ (i : Int))) from if_pos (congrArg Option.isNone ho2)]
        exact s9 _ _ (s8 _ _ (s7 _ _ (s5 _ _ hlo)))
      · obtain ⟨o1, o2⟩ := Sh.fst_some (Sh.good_inB pg) ho2
        refine ⟨_, rfl, rfl, _, rfl, iteF ?_⟩
        refine ⟨_, rfl, _, rfl, r2, os2, m, rfl, h8, hr2, o1, fun H6 s8 => ⟨_, rfl, iteF ?_⟩⟩
        refine ⟨_, rfl, _, rfl, r2, lp, os2, _, rfl, SqL.of (s8 _ _ hr2), hW4.same (s7.trans s8), by rw [o1.len]; omega, fun H7 s9 => ⟨_, rfl, ?_⟩⟩
        rw [o2]
        refine iteF ?_
        refine ⟨la, _, _, _, _, rfl, s6.trans (s7.trans (s8.trans s9)), ?_⟩
        rw [show Sh.cl (noneP m ws) ws.length (i + 1) = Sh.cl (noneP m ws) ws.length i from if_neg (fun z => by rw [show noneP m ws _ = false from congrArg Option.isNone ho2] at z; cases z)]
        exact s9 _ _ (s8 _ _ (s7 _ _ (s5 _ _ (s4 _ _ hL))))
    · rintro σ H2 ⟨la, u, v, w', x, rfl, s3, hL⟩
      have en : ((ws.length : Int)).toNat = ws.length := by omega
      rw [en] at hL
      exact ⟨_, rfl, q la H2 s3 hL⟩
def spCRight (K : PySem.W.Frag) : Sp := fun vs H Q _ => ∃ (lf : Addr) (m : Nat) (lw : Addr) (ws : List (List Int)), vs = [.ref lf, .int m, .ref lw] ∧ 1 ≤ m ∧ m ≤ 8 ∧ WL H lw ws ∧ ws.length ≤ 100 ∧ (∀ w ∈ ws, Sh.Good m w) ∧ Sh.fst m ws = none ∧ H lf = some (.lst ((Sh.cl (noneP m ws) ws.length ws.length).map V.int)) ∧ ∀ H', Same H H' → Q (.bl true) H'
set_option maxHeartbeats 0 in
theorem ok__law_right (T : Txt K mg) : Cal P w K mg base 21 "_law_right" ["found", "many", "wishes"] (spCRight K) := by
  have C_first := ok_first (P := P) (w := w) (base := base) T
  have C_odd_ring := ok_odd_ring (P := P) (w := w) (base := base) T
  have C__law_is_ring := ok__law_is_ring (P := P) (w := w) (base := base) T
  have C__law_is_order := ok__law_is_order (P := P) (w := w) (base := base) T
  have C__law_keeps := ok__law_keeps (P := P) (w := w) (base := base) T
  have C__law_whole := ok__law_whole (P := P) (w := w) (base := base) T
  refine T.d__law_right.ok sc__law_right (fun vs H Q E h => ?_) (fun f cdv A outer s H vs Q E hr h => ?_)
  · obtain ⟨lf, m, lw, ws, rfl, _⟩ := h
    rfl
  · obtain ⟨lf, m, lw, ws, rfl, h1, h8, hW, hlen, hg, hno, hF, q⟩ := h
    refine ⟨_, (pss_cons (ps_if (PW.pt (pw_or (pt_not (pt_val (pe_callB (k_isinst (K := K) rfl) rfl T.b_isinstance PyProof.Rows.boot_isinstance (pa_cons (pv 0) (pa_cons (pe_bltn (v := .ty "list") rfl T.b_list PyProof.Rows.boot_list rfl) pa_nil))))) (pw_or1 (pt_cmpR op_eq (pe_callB (k_len (K := K) rfl) rfl T.b_len PySem.boot_len (pa_cons (pv 0) pa_nil)) pe_int (nomark _))))) (pss_one (ps_ret pe_bl)) pss_nil) (pss_cons (ps_set (i := 3) sc__law_right.nd rfl (Or.inl rfl) (pe_un un_neg pe_int)) (pss_cons (ps_for PassesOwn.never rfl (k_list (K := K) rfl (pv 0)) (pg_name (i := 4) sc__law_right.nd rfl (Or.inl rfl)) (pss_cons (ps_if (PW.pt (pw_or (pt_not (pt_val (pe_cal C__law_whole (hr.mono (by first | decide | omega)) rfl (pa_cons (pv 4) pa_nil)))) (pw_or1 (pt_not (pt_chain op_lt op_lt (pv 3) (pv 4) (pe_callB (k_len (K := K) rfl) rfl T.b_len PySem.boot_len (pa_cons (pv 2) pa_nil))))))) (pss_one (ps_ret pe_bl)) pss_nil) (pss_one (ps_set (i := 3) sc__law_right.nd rfl (Or.inl rfl) (pv 4))))) (pss_cons (ps_if (pt_not (pt_val (pe_cal C__law_is_ring (hr.mono (by first | decide | omega)) rfl (pa_cons (pe_cal C_odd_ring (hr.mono (by first | decide | omega)) rfl (pa_cons (pv 1) (pa_cons (pe_comp (own := own__law_right_c2) (cap := cap__law_right_c2) rfl rfl bs__law_right_c2 (k_list (K := K) rfl (pv 0)) (fun _ _ _ _ => (pg_name (i := 0) nd__law_right_c2 rfl (Or.inl rfl) (Or.inr rfl))) (fun _ _ _ _ => pts_nil) (fun _ _ _ _ => (pe_ix (k_ixL (K := K) rfl) (pv 1) (pv 0) (fun _ _ => rfl)))) pa_nil))) (pa_cons (pv 1) (pa_cons (pe_comp (own := own__law_right_c1) (cap := cap__law_right_c1) rfl rfl bs__law_right_c1 (k_list (K := K) rfl (pv 0)) (fun _ _ _ _ => (pg_name (i := 0) nd__law_right_c1 rfl (Or.inl rfl) (Or.inr rfl))) (fun _ _ _ _ => pts_nil) (fun _ _ _ _ => (pe_ix (k_ixL (K := K) rfl) (pv 1) (pv 0) (fun _ _ => rfl)))) pa_nil)))))) (pss_one (ps_ret pe_bl)) pss_nil) (pss_cons (ps_for PassesOwn.never rfl (k_list (K := K) rfl (pv 0)) (pg_name (i := 5) sc__law_right.nd rfl (Or.inr rfl)) (pss_cons (ps_comp (i := 6) (own := own__law_right_c0) (cap := cap__law_right_c0) rfl rfl bs__law_right_c0 sc__law_right.nd rfl rfl rfl (k_list (K := K) rfl (pv 0)) (fun _ _ _ _ => (pg_name (i := 0) nd__law_right_c0 rfl (Or.inl rfl) (Or.inr rfl))) (fun _ _ _ _ => (pts_one (pt_cmpR op_ne (pv 0) (pv 2) (nomark _)))) (fun _ _ _ _ => (pe_ix (k_ixL (K := K) rfl) (pv 1) (pv 0) (fun _ _ => rfl)))) (pss_cons (ps_set (i := 7) sc__law_right.nd rfl (Or.inl rfl) (pe_cal C_first (hr.mono (by first | decide | omega)) rfl (pa_cons (pv 1) (pa_cons (pv 6) pa_nil)))) (pss_one (ps_if (PW.pt (pw_or (pt_not (pt_val (pe_cal C__law_is_order (hr.mono (by first | decide | omega)) rfl (pa_cons (pv 7) (pa_cons (pv 1) pa_nil))))) (pw_or1 (pt_not (pt_val (pe_cal C__law_keeps (hr.mono (by first | decide | omega)) rfl (pa_cons (pv 7) (pa_cons (pv 6) pa_nil)))))))) (pss_one (ps_ret pe_bl)) pss_nil))))) (pss_one (ps_ret pe_bl))))))), ?_⟩
    have hup : Sh.Up (noneP m ws) := Sh.nonP_up (Sh.good_inB hg)
    have hp0 : noneP m ws (Sh.rangeI ws.length) = true := by
      show (Sh.fst m (Sh.pick ws (Sh.rangeI ws.length))).isNone = true
      rw [Sh.pick_range, hno]
      rfl
    have clen := Sh.cl_len (noneP m ws) ws.length ws.length
    have csub := Sh.cl_sub (noneP m ws) ws.length ws.length
    have cris := Sh.cl_rising (noneP m ws) ws.length ws.length
    have ckeep := Sh.cl_keep (noneP m ws) ws.length hp0 ws.length
    have clast := fun {x} (hx : x ∈ Sh.cl (noneP m ws) ws.length ws.length) => Sh.cl_last (noneP m ws) ws.length hup hx
    have cne : (Sh.cl (noneP m ws) ws.length ws.length) ≠ [] := fun e => by
      rw [e] at ckeep
      have : noneP m ws [] = false := Sh.nonP_nil
      rw [this] at ckeep
      cases ckeep
    generalize Sh.cl (noneP m ws) ws.length ws.length = ids at hF clen csub cris ckeep clast cne
    have ilen : 0 < ids.length := List.length_pos_iff.mpr cne
    obtain ⟨as, hA, hP⟩ := id hW
    have lenA : as.length = ws.length := Paired.length hP
    refine ⟨_, rfl, _, _, _, _, rfl, .lst hF, kit_same, _, rfl, iteF ?_⟩
    refine ⟨_, rfl, lf, _, rfl, .inl (SqL.of hF), rfl, _, rfl, ?_⟩
    rw [List.length_map]
    refine ite2 (fun z => absurd (V.int.inj (of_decide_eq_true z)) (by omega)) (fun _ => ?_)
    refine ⟨_, rfl, ?_⟩
    refine ⟨_, rfl, lf, rfl, ⟨_, SqL.of hF⟩, for_list (K := K) (a := lf) (xs := ids.map V.int) (fun i σ H' => ∃ (z : Int) (v : Option V), σ = [some (.ref lf), some (.int m), some (.ref lw), some (.int z), v, none, none, none] ∧ H' = H ∧ (∀ j y, i ≤ j → ids[j]? = some y → z < y))
      ⟨-1, none, rfl, rfl, fun j y _ hy => by have := csub y (List.mem_of_getElem? hy); omega⟩ (fun i σ H' _ ⟨_, _, _, e, _⟩ => by rw [e]; exact SqL.of hF) ?_ ?_⟩
    · rintro i x σ H' hi ⟨z, v, rfl, rfl, hz⟩
      rw [List.getElem?_map] at hi
      cases e : ids[i]? with
      | none => rw [e] at hi; cases hi
      | some y =>
        rw [e] at hi
        obtain rfl : V.int y = x := Option.some.inj hi
        have h3 := hz i y (Nat.le_refl _) e
        have h4 := csub y (List.mem_of_getElem? e)
        refine ⟨_, rfl, y, rfl, _, rfl, iteF ?_⟩
        refine ⟨_, rfl, _, rfl, _, _, rfl, rfl, _, rfl, ?_⟩
        rw [if_pos (decide_eq_true h3)]
        refine ⟨_, rfl, lw, _, rfl, .inl (SqL.of hA), _, _, rfl, rfl, _, rfl, ?_⟩
        rw [List.length_map, lenA, decide_eq_true h4.2]
        refine iteF ?_
        refine ⟨_, rfl, y, _, rfl, rfl, fun j y' hj hy' => ?_⟩
        obtain ⟨g1, rfl⟩ := List.getElem?_eq_some_iff.mp e
        obtain ⟨g2, rfl⟩ := List.getElem?_eq_some_iff.mp hy'
        exact List.pairwise_iff_getElem.mp cris i j g1 g2 (by omega)
    · rintro σ H' ⟨z, v, rfl, rfl, _⟩
      have pg := Sh.pick_good hg csub
      have plen : (Sh.pick ws ids).length ≤ 100 := by unfold Sh.pick; rw [List.length_map]; omega
      have pno : Sh.fst m (Sh.pick ws ids) = none := by
        have : (Sh.fst m (Sh.pick ws ids)).isNone = true := ckeep
        exact Option.isNone_iff_eq_none.mp this
      refine ⟨_, rfl, _, rfl, lf, rfl, ⟨_, SqL.of hF⟩, fun lp flp => ?_⟩
      refine c_pick (SqL.of hF) hW csub (by omega) flp fun H1 s1 hW1 => ?_
      refine ⟨m, lp, _, rfl, h8, hW1, plen, pg, fun C => (ring_or pg pno C).elim, fun l c H2 fl s2 hTL R h113 => ?_⟩
      have hF2 := s2 _ _ (s1 _ _ hF)
      refine ⟨_, rfl, _, rfl, lf, rfl, ⟨_, SqL.of hF2⟩, fun lp2 flp2 => ?_⟩
      refine c_pick (SqL.of hF2) (hW.same (s1.trans s2)) csub (by omega) flp2 fun H3 s3 hW3 => ?_
      refine ⟨l, m, lp2, c, _, rfl, h8, hTL.same s3, hW3, R, h113, fun H4 s4 => ⟨_, rfl, iteF ?_⟩⟩
      have s04 := s1.trans (s2.trans (s3.trans s4))
      have hF4 := s04 _ _ hF
      refine ⟨_, rfl, lf, rfl, ⟨_, SqL.of hF4⟩, for_list (K := K) (a := lf) (xs := ids.map V.int) (fun i σ H5 => ∃ (u5 u6 u7 : Option V), σ = [some (.ref lf), some (.int m), some (.ref lw), some (.int z), v, u5, u6, u7] ∧ Same H4 H5) ⟨none, none, none, rfl, Same.refl _⟩ (fun i σ H5 _ ⟨_, _, _, _, s5⟩ => SqL.of (s5 _ _ hF4)) ?_ ?_⟩
      · rintro i x σ H5 hi ⟨u5, u6, u7, rfl, s5⟩
        rw [List.getElem?_map] at hi
        cases e : ids[i]? with
        | none => rw [e] at hi; cases hi
        | some y =>
          rw [e] at hi
          obtain rfl : V.int y = x := Option.some.inj hi
          have hF5 := s5 _ _ hF4
          refine ⟨_, rfl, lf, rfl, ⟨_, SqL.of hF5⟩, fun lq flq => ?_⟩
          refine c_pick2 (SqL.of hF5) (hW.same (s04.trans s5)) csub (by omega) flq fun H6 s6 hW6 => ?_
          have fsub : ∀ x ∈ ids.filter (fun x => decide (x ≠ y)), 0 ≤ x ∧ x < (ws.length : Int) := fun x hx => csub x (List.mem_filter.mp hx).1
          have pg6 := Sh.pick_good hg fsub
          have plen6 : (Sh.pick ws (ids.filter fun x => decide (x ≠ y))).length ≤ 100 := by
            unfold Sh.pick
            rw [List.length_map]
            have := List.length_filter_le (fun x => decide (x ≠ y)) ids
            omega
          have hl6 : noneP m ws (ids.filter fun x => decide (x ≠ y)) = false := clast (List.mem_of_getElem? e)
          refine ⟨_, rfl, _, rfl, m, lq, _, rfl, h1, h8, hW6, plen6, pg6, fun ho2 => ?_, fun os2 r2 H7 ho2 fr2 s7 hr2 => ?_⟩
          · rw [show noneP m ws _ = true from congrArg Option.isNone ho2] at hl6
            cases hl6
          · obtain ⟨o1, o2⟩ := Sh.fst_some (Sh.good_inB pg6) ho2
            refine ⟨_, rfl, _, rfl, r2, os2, m, rfl, h8, hr2, o1, fun H8 s8 => ⟨_, rfl, iteF ?_⟩⟩
            refine ⟨_, rfl, _, rfl, r2, lq, os2, _, rfl, SqL.of (s8 _ _ hr2), hW6.same (s7.trans s8), by rw [o1.len]; omega, fun H9 s9 => ⟨_, rfl, ?_⟩⟩
            rw [o2]
            exact iteF ⟨_, _, _, rfl, s5.trans (s6.trans (s7.trans (s8.trans s9)))⟩
      · rintro σ H5 ⟨u5, u6, u7, rfl, s5⟩
        exact q H5 (s04.trans s5)
def spLaw (K : PySem.W.Frag) : Sp := fun vs H Q _ => ∃ (a : Addr) (ns : List Int), vs = [.ref a] ∧ SqL K H a (ns.map V.int) ∧ ns.length ≤ 63 ∧ ∀ H', Q (.bl true) H'
set_option maxHeartbeats 0 in
theorem ok_law {f : Addr} {fd : FuncData} (F : Fun K "law" "law" s_law f fd) (T : Txt K mg) : FnOk P w K mg base CX0 22 f fd ["script"] (spLaw K) := by
  have C__law_wishes := ok__law_wishes (P := P) (w := w) (base := base) T
  have C__law_cell_at := ok__law_cell_at (P := P) (w := w) (base := base) T
  have C__law_right := ok__law_right (P := P) (w := w) (base := base) T
  have C__law_left := ok__law_left (P := P) (w := w) (base := base) T
  have C__law_is_order := ok__law_is_order (P := P) (w := w) (base := base) T
  have C__law_keeps := ok__law_keeps (P := P) (w := w) (base := base) T
  have C_clash := ok_clash (P := P) (w := w) (base := base) T
  have C_first := ok_first (P := P) (w := w) (base := base) T
  refine F.ok sc_law (fun vs H Q E h => ?_) (fun cdv A outer s H vs Q E hr h => ?_)
  · obtain ⟨a, ns, rfl, _⟩ := h
    rfl
  · obtain ⟨a, ns, rfl, hS, hlen, q⟩ := h
    have hu64 := room64 hr
    refine ⟨_, (pss_cons (ps_set (i := 1) sc_law.nd rfl (Or.inl rfl) (pe_cal C__law_wishes (hr.mono (by first | decide | omega)) rfl (pa_cons (pv 0) (pa_cons pe_int (pa_cons pe_int (pa_cons pe_int pa_nil)))))) (pss_cons (ps_by (ps_if (pt_cmpR op_eq (pe_op op_mod (pe_cal C__law_cell_at (hr.mono (by first | decide | omega)) rfl (pa_cons (pv 0) (pa_cons pe_int pa_nil))) pe_int) pe_int (nomark _)) (pss_one (ps_set (i := 1) sc_law.nd rfl (Or.inl rfl) (pe_cal C__law_wishes (hr.mono (by first | decide | omega)) rfl (pa_cons (pv 0) (pa_cons pe_int (pa_cons pe_int (pa_cons pe_int pa_nil))))))) pss_nil)) (pss_cons (ps_set (i := 2) sc_law.nd rfl (Or.inl rfl) (pe_ix (k_ixT (K := K) rfl) (pv 1) pe_int (fun _ _ => rfl))) (pss_cons (ps_set (i := 3) sc_law.nd rfl (Or.inl rfl) (pe_ix (k_ixT (K := K) rfl) (pv 1) pe_int (fun _ _ => rfl))) (pss_cons (ps_by (ps_set (i := 4) sc_law.nd rfl (Or.inl rfl) (pe_cal C_first (hr.mono (by first | decide | omega)) rfl (pa_cons (pv 2) (pa_cons (pv 3) pa_nil))))) (pss_cons (ps_for PassesOwn.never rfl (pi_range1 rfl T.b_range (pa_cons pe_int pa_nil)) (pg_name (i := 5) sc_law.nd rfl (Or.inl rfl)) (pss_cons (ps_comp (i := 6) (own := own_law_c0) (cap := cap_law_c0) rfl rfl bs_law_c0 sc_law.nd rfl rfl rfl (k_list (K := K) rfl (pv 3)) (fun _ _ _ _ => (pg_name (i := 0) nd_law_c0 rfl (Or.inl rfl) (Or.inr rfl))) (fun _ _ _ _ => pts_nil) (fun _ _ _ _ => (pe_callTy (k_listOf (K := K) rfl) rfl T.b_list PyProof.Rows.boot_list (pa_cons (pv 0) pa_nil)))) (pss_cons (ps_set (i := 7) sc_law.nd rfl (Or.inl rfl) (pe_cal C_clash (hr.mono (by first | decide | omega)) rfl (pa_cons (pv 2) (pa_cons (pv 6) pa_nil)))) (pss_cons (ps_if (pt_cmpR (k_neD (K := K) rfl hu64) (pv 6) (pv 3) (nomark _)) (pss_one (ps_ret pe_bl)) pss_nil) (pss_cons (ps_if (pt_cmpR op_isN (pv 7) pe_non (nomark _)) (pss_one (ps_ret (pe_and (pe_cal C__law_is_order (hr.mono (by first | decide | omega)) rfl (pa_cons (pv 4) (pa_cons (pv 2) pa_nil))) (pe_one (pe_cal C__law_keeps (hr.mono (by first | decide | omega)) rfl (pa_cons (pv 4) (pa_cons (pv 3) pa_nil))))))) pss_nil) (pss_cons (ps_if (PW.pt (pw_or (pt_cmpR op_notN (pv 4) pe_non (nomark _)) (pw_or1 (pt_not (pt_val (pe_cal C__law_right (hr.mono (by first | decide | omega)) rfl (pa_cons (pv 7) (pa_cons (pv 2) (pa_cons (pv 3) pa_nil))))))))) (pss_one (ps_ret pe_bl)) pss_nil) (pss_cons (ps_if (PW.pt (pw_and (pt_cmpR op_eq (pv 5) pe_int (nomark _)) (pw_and1 (pt_cmpR (k_neD (K := K) rfl hu64) (pv 7) (pe_cal C__law_left (hr.mono (by first | decide | omega)) rfl (pa_cons (pv 2) (pa_cons (pv 3) pa_nil))) (nomark _))))) (pss_one (ps_ret pe_bl)) pss_nil) (pss_one (ps_expr (pe_bm0 PySem.F.plainAttrs_list PySem.F.slot_list_clear PySem.F.type_list_clear mt_clear (pv 7))))))))))) (pss_one (ps_ret pe_bl)))))))), ?_⟩
    refine ⟨_, rfl, a, ns, 1, 5, 12, rfl, hS, by decide, by decide, by decide, by decide, fun t0 lw0 many1 ws0 H1 ft flw s1 hT0 hW0 h10 h80 hw0 hg1 => ?_⟩
    refine ⟨fun σ H' => ∃ (t lw : Addr) (m : Nat) (ws : List (List Int)), σ = [some (.ref a), some (.ref t), none, none, none, none, none, none] ∧ Same H H' ∧ H' t = some (.tup [.int m, .ref lw]) ∧ WL H' lw ws ∧ 1 ≤ m ∧ m ≤ 8 ∧ ws.length ≤ 12 ∧ ∀ w ∈ ws, Sh.Good m w, ?_, ?_⟩
    · refine ⟨_, rfl, a, ns, 0, rfl, s1.seq hS, by decide, fun c3 => ?_⟩
      refine ⟨_, _, rfl, rfl, (by show (0 : Int) < 3; decide), rfl, _, rfl, ?_⟩
      refine ite2 (fun _ => ?_) (fun _ => ?_)
      · refine ⟨_, rfl, a, ns, 1, 8, 12, rfl, s1.seq hS, by decide, by decide, by decide, by decide, fun t lw m ws H2 ft flw s2 hT hW h1 h8 hw hg0 => ?_⟩
        exact ⟨t, lw, m, ws, rfl, s1.trans s2, hT, hW, h1, h8, by omega, hg0⟩
      · exact ⟨t0, lw0, many1, ws0, rfl, s1, hT0, hW0, h10, by omega, by omega, hg1⟩
    rintro σ H2 ⟨t, lw, m, ws, rfl, s2, hT, hW, h1, h8, hw, hg⟩
    have hi := Sh.good_inB hg
    refine ⟨_, rfl, t, _, _, _, rfl, rfl, SqT.of hT, rfl, ?_⟩
    refine ⟨_, rfl, t, _, _, _, rfl, rfl, SqT.of hT, rfl, ?_⟩
    refine ⟨fun σ H' => ∃ v4 : V, σ = [some (.ref a), some (.ref t), some (.int m), some (.ref lw), some v4, none, none, none] ∧ Same H2 H' ∧ (Sh.fst m ws = none → v4 = .non) ∧ ∀ os, Sh.fst m ws = some os → ∃ r, v4 = .ref r ∧ H' r = some (.lst (os.map V.int)), ?_, ?_⟩
    · refine ⟨_, rfl, _, rfl, m, lw, ws, rfl, h1, h8, hW, by omega, hg, fun ho H3 s3 => ?_, fun os r H3 ho fr s3 hr3 => ?_⟩
      · exact ⟨_, rfl, s3, fun _ => rfl, fun os ho' => by rw [ho] at ho'; cases ho'⟩
      · exact ⟨_, rfl, s3, fun ho' => (by rw [ho] at ho'; cases ho'), fun os' ho' => ⟨r, rfl, by rw [ho] at ho'; rw [← Option.some.inj ho']; exact hr3⟩⟩
    rintro σ H3 ⟨v4, rfl, s3, hn4, hs4⟩
    have hW3 := hW.same s3
    refine ⟨2, rfl, by decide, by decide, for_range (n := 2) (fun i σ H' => ∃ u5 u6 u7, σ = [some (.ref a), some (.ref t), some (.int m), some (.ref lw), some v4, u5, u6, u7] ∧ Same H3 H') ⟨none, none, none, rfl, Same.refl _⟩ ?_ ?_⟩
    · rintro i σ H4 hi4 ⟨u5, u6, u7, rfl, s4⟩
      have hW4 := hW3.same s4
      obtain ⟨as, hA, hP⟩ := id hW4
      refine ⟨_, rfl, lw, rfl, ⟨_, SqL.of hA⟩, fun l2 f2 => ?_⟩
      refine c_copy hW4 (by omega) f2 fun H5 s5 hWx => ?_
      have hX := hWx.wl
      refine ⟨_, rfl, _, rfl, m, l2, ws, rfl, h1, h8, hX, by omega, hg, fun ho H6 s6 => ?_, fun ho rc H6 frc s6 hrc => ?_⟩
      · have s46 := s5.trans s6
        refine ⟨_, rfl, _, rfl, dII ws, dII ws, (hX.same s6).dt, (hW4.same s46).dt, shaped_II _, shaped_II _, _, rfl, ?_⟩
        show if (!PyData.eqv _ _) = true then _ else _
        rw [eqv_II, decide_eq_true rfl]
        refine iteF ?_
        refine ⟨_, rfl, rfl, _, rfl, iteT ?_⟩
        obtain ⟨os, ho2⟩ := Option.isSome_iff_exists.mp ho
        obtain ⟨r, rfl, hr3⟩ := hs4 os ho2
        obtain ⟨o1, o2⟩ := Sh.fst_some hi ho2
        have hr6 := (s4.trans s46) _ _ hr3
        refine ⟨_, rfl, _, rfl, r, os, m, rfl, h8, hr6, o1, fun H7 s7 => ⟨_, rfl, iteT ?_⟩⟩
        refine ⟨_, rfl, _, rfl, r, lw, os, ws, rfl, SqL.of (s7 _ _ hr6), hW4.same (s46.trans s7), by rw [o1.len]; omega, fun H8 s8 => ?_⟩
        rw [o2]
        exact q H8
      · have s46 := s5.trans s6
        refine ⟨_, rfl, _, rfl, dII ws, dII ws, (hX.same s6).dt, (hW4.same s46).dt, shaped_II _, shaped_II _, _, rfl, ?_⟩
        show if (!PyData.eqv _ _) = true then _ else _
        rw [eqv_II, decide_eq_true rfl]
        refine iteF ?_
        refine ⟨_, rfl, rfl, _, rfl, iteF ?_⟩
        have ev := hn4 ho
        subst ev
        refine ⟨_, rfl, rfl, _, rfl, iteF ?_⟩
        refine ⟨_, rfl, _, rfl, _, rfl, rc, m, lw, ws, rfl, h1, h8, hW4.same s46, by omega, hg, ho, hrc, fun H7 s7 => ⟨_, rfl, iteF ?_⟩⟩
        have hrc7 := s7 _ _ hrc
        have clear : ∀ H8, Same H7 H8 → ∃ xs, H8 rc = some (.lst xs) := fun H8 s8 => ⟨_, s8 _ _ hrc7⟩
        have s47 := s46.trans s7
        refine ⟨_, rfl, rfl, _, rfl, ?_⟩
        refine ite2 (fun _ => ?_) (fun _ => ?_)
        · refine ⟨_, rfl, _, rfl, _, rfl, m, lw, ws, rfl, h1, h8, hW4.same s47, by omega, hg, fun rl H8 s8 hrl => ?_⟩
          refine ⟨dI _, dI _, dt_I (SqL.of (s8 _ _ hrc7)), dt_I (SqL.of hrl), shaped_I _, shaped_I _, _, rfl, ?_⟩
          show if (!PyData.eqv _ _) = true then _ else _
          rw [eqv_I, decide_eq_true rfl]
          refine iteF ?_
          refine ⟨_, rfl, .inl ⟨rfl, _, SqL.of (s8 _ _ hrc7)⟩, rc, _, rfl, rfl, s8 _ _ hrc7, ?_⟩
          exact ⟨_, _, _, rfl, (s4.trans (s47.trans s8)).put (s4.free (s5.free frc))⟩
        · refine iteF ?_
          refine ⟨_, rfl, .inl ⟨rfl, _, SqL.of hrc7⟩, rc, _, rfl, rfl, hrc7, ?_⟩
          exact ⟨_, _, _, rfl, (s4.trans s47).put (s4.free (s5.free frc))⟩
    · rintro σ H4 ⟨u5, u6, u7, rfl, s4⟩
      exact q H4

end
end K08
namespace K08
open PySem L2
set_option maxRecDepth 100000
set_option maxHeartbeats 0 in
theorem all_mk {l : PySem.W.OpenLaw} {w : World} {K : PySem.W.Frag} {h : Heap} {mg : Str → Option Value} {fa : Addr} (X : K.In h) (G : h.Ns mainGlobals mg) (hfa : mg "law" = some (.ref fa))
    {C0 : Addr}
    {f0 : Addr} {od0 an0 : Option Addr} {sl0 : Array (Option Value)} {oc0 kV0 dc0 pm0 cd0 ct0 : Value}
    {f1 : Addr} {od1 an1 : Option Addr} {sl1 : Array (Option Value)} {oc1 kV1 dc1 pm1 cd1 ct1 : Value}
    {f2 : Addr} {od2 an2 : Option Addr} {sl2 : Array (Option Value)} {oc2 kV2 dc2 pm2 cd2 ct2 : Value}
    {f3 : Addr} {od3 an3 : Option Addr} {sl3 : Array (Option Value)} {oc3 kV3 dc3 pm3 cd3 ct3 : Value}
    {f4 : Addr} {od4 an4 : Option Addr} {sl4 : Array (Option Value)} {oc4 kV4 dc4 pm4 cd4 ct4 : Value}
    {f5 : Addr} {od5 an5 : Option Addr} {sl5 : Array (Option Value)} {oc5 kV5 dc5 pm5 cd5 ct5 : Value}
    {f6 : Addr} {od6 an6 : Option Addr} {sl6 : Array (Option Value)} {oc6 kV6 dc6 pm6 cd6 ct6 : Value}
    {f7 : Addr} {od7 an7 : Option Addr} {sl7 : Array (Option Value)} {oc7 kV7 dc7 pm7 cd7 ct7 : Value}
    {f8 : Addr} {od8 an8 : Option Addr} {sl8 : Array (Option Value)} {oc8 kV8 dc8 pm8 cd8 ct8 : Value}
    {f9 : Addr} {od9 an9 : Option Addr} {sl9 : Array (Option Value)} {oc9 kV9 dc9 pm9 cd9 ct9 : Value}
    {f10 : Addr} {od10 an10 : Option Addr} {sl10 : Array (Option Value)} {oc10 kV10 dc10 pm10 cd10 ct10 : Value}
    {f11 : Addr} {od11 an11 : Option Addr} {sl11 : Array (Option Value)} {oc11 kV11 dc11 pm11 cd11 ct11 : Value}
    {f12 : Addr} {od12 an12 : Option Addr} {sl12 : Array (Option Value)} {oc12 kV12 dc12 pm12 cd12 ct12 : Value}
    {f13 : Addr} {od13 an13 : Option Addr} {sl13 : Array (Option Value)} {oc13 kV13 dc13 pm13 cd13 ct13 : Value}
    {f14 : Addr} {od14 an14 : Option Addr} {sl14 : Array (Option Value)} {oc14 kV14 dc14 pm14 cd14 ct14 : Value}
    {f15 : Addr} {od15 an15 : Option Addr} {sl15 : Array (Option Value)} {oc15 kV15 dc15 pm15 cd15 ct15 : Value}
    {f16 : Addr} {od16 an16 : Option Addr} {sl16 : Array (Option Value)} {oc16 kV16 dc16 pm16 cd16 ct16 : Value}
    {f17 : Addr} {od17 an17 : Option Addr} {sl17 : Array (Option Value)} {oc17 kV17 dc17 pm17 cd17 ct17 : Value}
    {f18 : Addr} {od18 an18 : Option Addr} {sl18 : Array (Option Value)} {oc18 kV18 dc18 pm18 cd18 ct18 : Value}
    {f19 : Addr} {od19 an19 : Option Addr} {sl19 : Array (Option Value)} {oc19 kV19 dc19 pm19 cd19 ct19 : Value}
    {f20 : Addr} {od20 an20 : Option Addr} {sl20 : Array (Option Value)} {oc20 kV20 dc20 pm20 cd20 ct20 : Value}
    {f21 : Addr} {od21 an21 : Option Addr} {sl21 : Array (Option Value)} {oc21 kV21 dc21 pm21 cd21 ct21 : Value}
    {f22 : Addr} {od22 an22 : Option Addr} {sl22 : Array (Option Value)} {oc22 kV22 dc22 pm22 cd22 ct22 : Value}
    {f23 : Addr} {od23 an23 : Option Addr} {sl23 : Array (Option Value)} {oc23 kV23 dc23 pm23 cd23 ct23 : Value}
    {f24 : Addr} {od24 an24 : Option Addr} {sl24 : Array (Option Value)} {oc24 kV24 dc24 pm24 cd24 ct24 : Value}
    {f25 : Addr} {od25 an25 : Option Addr} {sl25 : Array (Option Value)} {oc25 kV25 dc25 pm25 cd25 ct25 : Value}
    {f26 : Addr} {od26 an26 : Option Addr} {sl26 : Array (Option Value)} {oc26 kV26 dc26 pm26 cd26 ct26 : Value}
    {f27 : Addr} {od27 an27 : Option Addr} {sl27 : Array (Option Value)} {oc27 kV27 dc27 pm27 cd27 ct27 : Value}
    {f28 : Addr} {od28 an28 : Option Addr} {sl28 : Array (Option Value)} {oc28 kV28 dc28 pm28 cd28 ct28 : Value}
    {f29 : Addr} {od29 an29 : Option Addr} {sl29 : Array (Option Value)} {oc29 kV29 dc29 pm29 cd29 ct29 : Value}
    {f30 : Addr} {od30 an30 : Option Addr} {sl30 : Array (Option Value)} {oc30 kV30 dc30 pm30 cd30 ct30 : Value}
    {f31 : Addr} {od31 an31 : Option Addr} {sl31 : Array (Option Value)} {oc31 kV31 dc31 pm31 cd31 ct31 : Value}
    {f32 : Addr} {od32 an32 : Option Addr} {sl32 : Array (Option Value)} {oc32 kV32 dc32 pm32 cd32 ct32 : Value}
    {f33 : Addr} {od33 an33 : Option Addr} {sl33 : Array (Option Value)} {oc33 kV33 dc33 pm33 cd33 ct33 : Value}
    (aC0 : PySem.W.nsIn K mainGlobals "Search" = some (some (.ref C0))) (pg0 : PySem.W.plainGet K C0 Str.empty = true) (hd0 : PySem.W.hasDictIn K C0 = true) (po0 : PySem.W.plainOver K C0 = true) (sa0 : PySem.W.findIn K (.ref C0) "__setattr__" = some (some (.builtin "object.__setattr__"))) (mk0 : PySem.W.makesIn K C0 = true) (kc0 : PySem.W.keepIn K (.ref C0) = true)
    (nf0_0 : PySem.W.findIn K (.ref C0) "many" = some none)
    (nf0_1 : PySem.W.findIn K (.ref C0) "wanted" = some none)
    (nf0_2 : PySem.W.findIn K (.ref C0) "dead_ends" = some none)
    (a0 : PySem.W.nsIn K mainGlobals "_law_cell_at" = some (some (.ref f0)))
    (l0 : K.lookup f0 = some ⟨oc0, od0, .func (PySem.W.fnOf "_law_cell_at" "_law_cell_at" (defArgs s__law_cell_at) (defBody s__law_cell_at) (defScope s__law_cell_at) .none kV0 dc0 pm0 an0 cd0 ct0), sl0⟩) (c0 : PySem.W.codeIn K cd0 "_law_cell_at" = true) (k0 : PySem.W.keepIn K (.ref f0) = true)
    (a1 : PySem.W.nsIn K mainGlobals "_law_set" = some (some (.ref f1)))
    (l1 : K.lookup f1 = some ⟨oc1, od1, .func (PySem.W.fnOf "_law_set" "_law_set" (defArgs s__law_set) (defBody s__law_set) (defScope s__law_set) .none kV1 dc1 pm1 an1 cd1 ct1), sl1⟩) (c1 : PySem.W.codeIn K cd1 "_law_set" = true) (k1 : PySem.W.keepIn K (.ref f1) = true)
    (a2 : PySem.W.nsIn K mainGlobals "_law_order" = some (some (.ref f2)))
    (l2 : K.lookup f2 = some ⟨oc2, od2, .func (PySem.W.fnOf "_law_order" "_law_order" (defArgs s__law_order) (defBody s__law_order) (defScope s__law_order) .none kV2 dc2 pm2 an2 cd2 ct2), sl2⟩) (c2 : PySem.W.codeIn K cd2 "_law_order" = true) (k2 : PySem.W.keepIn K (.ref f2) = true)
    (a3 : PySem.W.nsIn K mainGlobals "_law_wish" = some (some (.ref f3)))
    (l3 : K.lookup f3 = some ⟨oc3, od3, .func (PySem.W.fnOf "_law_wish" "_law_wish" (defArgs s__law_wish) (defBody s__law_wish) (defScope s__law_wish) .none kV3 dc3 pm3 an3 cd3 ct3), sl3⟩) (c3 : PySem.W.codeIn K cd3 "_law_wish" = true) (k3 : PySem.W.keepIn K (.ref f3) = true)
    (a4 : PySem.W.nsIn K mainGlobals "_law_wishes" = some (some (.ref f4)))
    (l4 : K.lookup f4 = some ⟨oc4, od4, .func (PySem.W.fnOf "_law_wishes" "_law_wishes" (defArgs s__law_wishes) (defBody s__law_wishes) (defScope s__law_wishes) .none kV4 dc4 pm4 an4 cd4 ct4), sl4⟩) (c4 : PySem.W.codeIn K cd4 "_law_wishes" = true) (k4 : PySem.W.keepIn K (.ref f4) = true)
    (a5 : PySem.W.nsIn K mainGlobals "check_books" = some (some (.ref f5)))
    (l5 : K.lookup f5 = some ⟨oc5, od5, .func (PySem.W.fnOf "check_books" "check_books" (defArgs s_check_books) (defBody s_check_books) (defScope s_check_books) .none kV5 dc5 pm5 an5 cd5 ct5), sl5⟩) (c5 : PySem.W.codeIn K cd5 "check_books" = true) (k5 : PySem.W.keepIn K (.ref f5) = true)
    (a6 : PySem.W.nsIn K mainGlobals "check_wishes" = some (some (.ref f6)))
    (l6 : K.lookup f6 = some ⟨oc6, od6, .func (PySem.W.fnOf "check_wishes" "check_wishes" (defArgs s_check_wishes) (defBody s_check_wishes) (defScope s_check_wishes) .none kV6 dc6 pm6 an6 cd6 ct6), sl6⟩) (c6 : PySem.W.codeIn K cd6 "check_wishes" = true) (k6 : PySem.W.keepIn K (.ref f6) = true)
    (a7 : PySem.W.nsIn K mainGlobals "barring_onward" = some (some (.ref f7)))
    (l7 : K.lookup f7 = some ⟨oc7, od7, .func (PySem.W.fnOf "barring_onward" "barring_onward" (defArgs s_barring_onward) (defBody s_barring_onward) (defScope s_barring_onward) .none kV7 dc7 pm7 an7 cd7 ct7), sl7⟩) (c7 : PySem.W.codeIn K cd7 "barring_onward" = true) (k7 : PySem.W.keepIn K (.ref f7) = true)
    (a8 : PySem.W.nsIn K mainGlobals "barring" = some (some (.ref f8)))
    (l8 : K.lookup f8 = some ⟨oc8, od8, .func (PySem.W.fnOf "barring" "barring" (defArgs s_barring) (defBody s_barring) (defScope s_barring) .none kV8 dc8 pm8 an8 cd8 ct8), sl8⟩) (c8 : PySem.W.codeIn K cd8 "barring" = true) (k8 : PySem.W.keepIn K (.ref f8) = true)
    (a9 : PySem.W.nsIn K mainGlobals "all_turns" = some (some (.ref f9)))
    (l9 : K.lookup f9 = some ⟨oc9, od9, .func (PySem.W.fnOf "all_turns" "all_turns" (defArgs s_all_turns) (defBody s_all_turns) (defScope s_all_turns) .none kV9 dc9 pm9 an9 cd9 ct9), sl9⟩) (c9 : PySem.W.codeIn K cd9 "all_turns" = true) (k9 : PySem.W.keepIn K (.ref f9) = true)
    (a10 : PySem.W.nsIn K mainGlobals "barred_turns" = some (some (.ref f10)))
    (l10 : K.lookup f10 = some ⟨oc10, od10, .func (PySem.W.fnOf "barred_turns" "barred_turns" (defArgs s_barred_turns) (defBody s_barred_turns) (defScope s_barred_turns) .none kV10 dc10 pm10 an10 cd10 ct10), sl10⟩) (c10 : PySem.W.codeIn K cd10 "barred_turns" = true) (k10 : PySem.W.keepIn K (.ref f10) = true)
    (a11 : PySem.W.nsIn K mainGlobals "paths_from" = some (some (.ref f11)))
    (l11 : K.lookup f11 = some ⟨oc11, od11, .func (PySem.W.fnOf "paths_from" "paths_from" (defArgs s_paths_from) (defBody s_paths_from) (defScope s_paths_from) .none kV11 dc11 pm11 an11 cd11 ct11), sl11⟩) (c11 : PySem.W.codeIn K cd11 "paths_from" = true) (k11 : PySem.W.keepIn K (.ref f11) = true)
    (a12 : PySem.W.nsIn K mainGlobals "bits_of" = some (some (.ref f12)))
    (l12 : K.lookup f12 = some ⟨oc12, od12, .func (PySem.W.fnOf "bits_of" "bits_of" (defArgs s_bits_of) (defBody s_bits_of) (defScope s_bits_of) .none kV12 dc12 pm12 an12 cd12 ct12), sl12⟩) (c12 : PySem.W.codeIn K cd12 "bits_of" = true) (k12 : PySem.W.keepIn K (.ref f12) = true)
    (a13 : PySem.W.nsIn K mainGlobals "has" = some (some (.ref f13)))
    (l13 : K.lookup f13 = some ⟨oc13, od13, .func (PySem.W.fnOf "has" "has" (defArgs s_has) (defBody s_has) (defScope s_has) .none kV13 dc13 pm13 an13 cd13 ct13), sl13⟩) (c13 : PySem.W.codeIn K cd13 "has" = true) (k13 : PySem.W.keepIn K (.ref f13) = true)
    (a14 : PySem.W.findIn K (.ref C0) "__init__" = some (some (.ref f14))) (i14 : PySem.W.isFn K (.ref f14) = true)
    (l14 : K.lookup f14 = some ⟨oc14, od14, .func (PySem.W.fnOf "__init__" "Search.__init__" (defArgs s_Search___init__) (defBody s_Search___init__) (defScope s_Search___init__) .none kV14 dc14 pm14 an14 cd14 ct14), sl14⟩) (c14 : PySem.W.codeIn K cd14 "Search.__init__" = true) (k14 : PySem.W.keepIn K (.ref f14) = true)
    (a15 : PySem.W.findIn K (.ref C0) "next_books" = some (some (.ref f15))) (i15 : PySem.W.isFn K (.ref f15) = true)
    (l15 : K.lookup f15 = some ⟨oc15, od15, .func (PySem.W.fnOf "next_books" "Search.next_books" (defArgs s_Search_next_books) (defBody s_Search_next_books) (defScope s_Search_next_books) .none kV15 dc15 pm15 an15 cd15 ct15), sl15⟩) (c15 : PySem.W.codeIn K cd15 "Search.next_books" = true) (k15 : PySem.W.keepIn K (.ref f15) = true)
    (a16 : PySem.W.findIn K (.ref C0) "completed" = some (some (.ref f16))) (i16 : PySem.W.isFn K (.ref f16) = true)
    (l16 : K.lookup f16 = some ⟨oc16, od16, .func (PySem.W.fnOf "completed" "Search.completed" (defArgs s_Search_completed) (defBody s_Search_completed) (defScope s_Search_completed) .none kV16 dc16 pm16 an16 cd16 ct16), sl16⟩) (c16 : PySem.W.codeIn K cd16 "Search.completed" = true) (k16 : PySem.W.keepIn K (.ref f16) = true)
    (a17 : PySem.W.findIn K (.ref C0) "completed_with" = some (some (.ref f17))) (i17 : PySem.W.isFn K (.ref f17) = true)
    (l17 : K.lookup f17 = some ⟨oc17, od17, .func (PySem.W.fnOf "completed_with" "Search.completed_with" (defArgs s_Search_completed_with) (defBody s_Search_completed_with) (defScope s_Search_completed_with) .none kV17 dc17 pm17 an17 cd17 ct17), sl17⟩) (c17 : PySem.W.codeIn K cd17 "Search.completed_with" = true) (k17 : PySem.W.keepIn K (.ref f17) = true)
    (a18 : PySem.W.nsIn K mainGlobals "first" = some (some (.ref f18)))
    (l18 : K.lookup f18 = some ⟨oc18, od18, .func (PySem.W.fnOf "first" "first" (defArgs s_first) (defBody s_first) (defScope s_first) .none kV18 dc18 pm18 an18 cd18 ct18), sl18⟩) (c18 : PySem.W.codeIn K cd18 "first" = true) (k18 : PySem.W.keepIn K (.ref f18) = true)
    (a19 : PySem.W.nsIn K mainGlobals "ring_of_paths" = some (some (.ref f19)))
    (l19 : K.lookup f19 = some ⟨oc19, od19, .func (PySem.W.fnOf "ring_of_paths" "ring_of_paths" (defArgs s_ring_of_paths) (defBody s_ring_of_paths) (defScope s_ring_of_paths) .none kV19 dc19 pm19 an19 cd19 ct19), sl19⟩) (c19 : PySem.W.codeIn K cd19 "ring_of_paths" = true) (k19 : PySem.W.keepIn K (.ref f19) = true)
    (a20 : PySem.W.nsIn K mainGlobals "ring_among" = some (some (.ref f20)))
    (l20 : K.lookup f20 = some ⟨oc20, od20, .func (PySem.W.fnOf "ring_among" "ring_among" (defArgs s_ring_among) (defBody s_ring_among) (defScope s_ring_among) .none kV20 dc20 pm20 an20 cd20 ct20), sl20⟩) (c20 : PySem.W.codeIn K cd20 "ring_among" = true) (k20 : PySem.W.keepIn K (.ref f20) = true)
    (a21 : PySem.W.nsIn K mainGlobals "odd_ring" = some (some (.ref f21)))
    (l21 : K.lookup f21 = some ⟨oc21, od21, .func (PySem.W.fnOf "odd_ring" "odd_ring" (defArgs s_odd_ring) (defBody s_odd_ring) (defScope s_odd_ring) .none kV21 dc21 pm21 an21 cd21 ct21), sl21⟩) (c21 : PySem.W.codeIn K cd21 "odd_ring" = true) (k21 : PySem.W.keepIn K (.ref f21) = true)
    (a22 : PySem.W.nsIn K mainGlobals "clash" = some (some (.ref f22)))
    (l22 : K.lookup f22 = some ⟨oc22, od22, .func (PySem.W.fnOf "clash" "clash" (defArgs s_clash) (defBody s_clash) (defScope s_clash) .none kV22 dc22 pm22 an22 cd22 ct22), sl22⟩) (c22 : PySem.W.codeIn K cd22 "clash" = true) (k22 : PySem.W.keepIn K (.ref f22) = true)
    (a23 : PySem.W.nsIn K mainGlobals "_law_split" = some (some (.ref f23)))
    (l23 : K.lookup f23 = some ⟨oc23, od23, .func (PySem.W.fnOf "_law_split" "_law_split" (defArgs s__law_split) (defBody s__law_split) (defScope s__law_split) .none kV23 dc23 pm23 an23 cd23 ct23), sl23⟩) (c23 : PySem.W.codeIn K cd23 "_law_split" = true) (k23 : PySem.W.keepIn K (.ref f23) = true)
    (a24 : PySem.W.nsIn K mainGlobals "_law_bar" = some (some (.ref f24)))
    (l24 : K.lookup f24 = some ⟨oc24, od24, .func (PySem.W.fnOf "_law_bar" "_law_bar" (defArgs s__law_bar) (defBody s__law_bar) (defScope s__law_bar) .none kV24 dc24 pm24 an24 cd24 ct24), sl24⟩) (c24 : PySem.W.codeIn K cd24 "_law_bar" = true) (k24 : PySem.W.keepIn K (.ref f24) = true)
    (a25 : PySem.W.nsIn K mainGlobals "_law_whole" = some (some (.ref f25)))
    (l25 : K.lookup f25 = some ⟨oc25, od25, .func (PySem.W.fnOf "_law_whole" "_law_whole" (defArgs s__law_whole) (defBody s__law_whole) (defScope s__law_whole) .none kV25 dc25 pm25 an25 cd25 ct25), sl25⟩) (c25 : PySem.W.codeIn K cd25 "_law_whole" = true) (k25 : PySem.W.keepIn K (.ref f25) = true)
    (a26 : PySem.W.nsIn K mainGlobals "_law_is_turn" = some (some (.ref f26)))
    (l26 : K.lookup f26 = some ⟨oc26, od26, .func (PySem.W.fnOf "_law_is_turn" "_law_is_turn" (defArgs s__law_is_turn) (defBody s__law_is_turn) (defScope s__law_is_turn) .none kV26 dc26 pm26 an26 cd26 ct26), sl26⟩) (c26 : PySem.W.codeIn K cd26 "_law_is_turn" = true) (k26 : PySem.W.keepIn K (.ref f26) = true)
    (a27 : PySem.W.nsIn K mainGlobals "_law_together" = some (some (.ref f27)))
    (l27 : K.lookup f27 = some ⟨oc27, od27, .func (PySem.W.fnOf "_law_together" "_law_together" (defArgs s__law_together) (defBody s__law_together) (defScope s__law_together) .none kV27 dc27 pm27 an27 cd27 ct27), sl27⟩) (c27 : PySem.W.codeIn K cd27 "_law_together" = true) (k27 : PySem.W.keepIn K (.ref f27) = true)
    (a28 : PySem.W.nsIn K mainGlobals "_law_keeps" = some (some (.ref f28)))
    (l28 : K.lookup f28 = some ⟨oc28, od28, .func (PySem.W.fnOf "_law_keeps" "_law_keeps" (defArgs s__law_keeps) (defBody s__law_keeps) (defScope s__law_keeps) .none kV28 dc28 pm28 an28 cd28 ct28), sl28⟩) (c28 : PySem.W.codeIn K cd28 "_law_keeps" = true) (k28 : PySem.W.keepIn K (.ref f28) = true)
    (a29 : PySem.W.nsIn K mainGlobals "_law_is_order" = some (some (.ref f29)))
    (l29 : K.lookup f29 = some ⟨oc29, od29, .func (PySem.W.fnOf "_law_is_order" "_law_is_order" (defArgs s__law_is_order) (defBody s__law_is_order) (defScope s__law_is_order) .none kV29 dc29 pm29 an29 cd29 ct29), sl29⟩) (c29 : PySem.W.codeIn K cd29 "_law_is_order" = true) (k29 : PySem.W.keepIn K (.ref f29) = true)
    (a30 : PySem.W.nsIn K mainGlobals "_law_is_ring" = some (some (.ref f30)))
    (l30 : K.lookup f30 = some ⟨oc30, od30, .func (PySem.W.fnOf "_law_is_ring" "_law_is_ring" (defArgs s__law_is_ring) (defBody s__law_is_ring) (defScope s__law_is_ring) .none kV30 dc30 pm30 an30 cd30 ct30), sl30⟩) (c30 : PySem.W.codeIn K cd30 "_law_is_ring" = true) (k30 : PySem.W.keepIn K (.ref f30) = true)
    (a31 : PySem.W.nsIn K mainGlobals "_law_left" = some (some (.ref f31)))
    (l31 : K.lookup f31 = some ⟨oc31, od31, .func (PySem.W.fnOf "_law_left" "_law_left" (defArgs s__law_left) (defBody s__law_left) (defScope s__law_left) .none kV31 dc31 pm31 an31 cd31 ct31), sl31⟩) (c31 : PySem.W.codeIn K cd31 "_law_left" = true) (k31 : PySem.W.keepIn K (.ref f31) = true)
    (a32 : PySem.W.nsIn K mainGlobals "_law_right" = some (some (.ref f32)))
    (l32 : K.lookup f32 = some ⟨oc32, od32, .func (PySem.W.fnOf "_law_right" "_law_right" (defArgs s__law_right) (defBody s__law_right) (defScope s__law_right) .none kV32 dc32 pm32 an32 cd32 ct32), sl32⟩) (c32 : PySem.W.codeIn K cd32 "_law_right" = true) (k32 : PySem.W.keepIn K (.ref f32) = true)
    (a33 : PySem.W.nsIn K mainGlobals "law" = some (some (.ref f33)))
    (l33 : K.lookup f33 = some ⟨oc33, od33, .func (PySem.W.fnOf "law" "law" (defArgs s_law) (defBody s_law) (defScope s_law) .none kV33 dc33 pm33 an33 cd33 ct33), sl33⟩) (c33 : PySem.W.codeIn K cd33 "law" = true) (k33 : PySem.W.keepIn K (.ref f33) = true)
    (z0 : PySem.W.nsIn K mainGlobals "len" = some none)
    (z1 : PySem.W.nsIn K mainGlobals "range" = some none)
    (z2 : PySem.W.nsIn K mainGlobals "list" = some none)
    (z3 : PySem.W.nsIn K mainGlobals "reversed" = some none)
    (z4 : PySem.W.nsIn K mainGlobals "any" = some none)
    (z5 : PySem.W.nsIn K mainGlobals "sorted" = some none)
    (z6 : PySem.W.nsIn K mainGlobals "set" = some none)
    (z7 : PySem.W.nsIn K mainGlobals "isinstance" = some none)
    (z8 : PySem.W.nsIn K mainGlobals "bool" = some none)
    (z9 : PySem.W.nsIn K mainGlobals "int" = some none)
    (z10 : PySem.W.nsIn K mainGlobals "tuple" = some none)
    : ∃ fd : FuncData, (∀ (s : Shared) (v : Value), BindsTo s fd ⟨[v], []⟩ [("script", v)]) ∧ ∀ base : Heap, K.In base → base.Ns mainGlobals mg → FnOk l.prog w K mg base CX0 22 fa fd ["script"] (spLaw K) := by
  have e := hfa.symm.trans (PySem.W.mg_of X G a33)
  cases e
  have G0 := PySem.W.mg_of X G aC0
  have ec0 : aCls mg "Search" = C0 := aCls_of G0
  have F0 := fun_mk (st := s__law_cell_at) l0 c0 k0
  have D0 : TDef K mg "_law_cell_at" s__law_cell_at ["script", "k"] := tdef_mk F0 (PySem.W.mg_of X G a0) (F0.binds (ps := ["script", "k"]) fun _ _ _ _ _ _ us hl => match us, hl with | [_, _], _ => rfl)
  have F1 := fun_mk (st := s__law_set) l1 c1 k1
  have D1 : TDef K mg "_law_set" s__law_set ["cell", "many"] := tdef_mk F1 (PySem.W.mg_of X G a1) (F1.binds (ps := ["cell", "many"]) fun _ _ _ _ _ _ us hl => match us, hl with | [_, _], _ => rfl)
  have F2 := fun_mk (st := s__law_order) l2 c2 k2
  have D2 : TDef K mg "_law_order" s__law_order ["script", "at", "many"] := tdef_mk F2 (PySem.W.mg_of X G a2) (F2.binds (ps := ["script", "at", "many"]) fun _ _ _ _ _ _ us hl => match us, hl with | [_, _, _], _ => rfl)
  have F3 := fun_mk (st := s__law_wish) l3 c3 k3
  have D3 : TDef K mg "_law_wish" s__law_wish ["cell", "many", "order"] := tdef_mk F3 (PySem.W.mg_of X G a3) (F3.binds (ps := ["cell", "many", "order"]) fun _ _ _ _ _ _ us hl => match us, hl with | [_, _, _], _ => rfl)
  have F4 := fun_mk (st := s__law_wishes) l4 c4 k4
  have D4 : TDef K mg "_law_wishes" s__law_wishes ["script", "at", "most", "few"] := tdef_mk F4 (PySem.W.mg_of X G a4) (F4.binds (ps := ["script", "at", "most", "few"]) fun _ _ _ _ _ _ us hl => match us, hl with | [_, _, _, _], _ => rfl)
  have F5 := fun_mk (st := s_check_books) l5 c5 k5
  have D5 : TDef K mg "check_books" s_check_books ["many", "books"] := tdef_mk F5 (PySem.W.mg_of X G a5) (F5.binds (ps := ["many", "books"]) fun _ _ _ _ _ _ us hl => match us, hl with | [_, _], _ => rfl)
  have F6 := fun_mk (st := s_check_wishes) l6 c6 k6
  have D6 : TDef K mg "check_wishes" s_check_wishes ["many", "wishes"] := tdef_mk F6 (PySem.W.mg_of X G a6) (F6.binds (ps := ["many", "wishes"]) fun _ _ _ _ _ _ us hl => match us, hl with | [_, _], _ => rfl)
  have F7 := fun_mk (st := s_barring_onward) l7 c7 k7
  have D7 : TDef K mg "barring_onward" s_barring_onward ["wishes", "one", "other"] := tdef_mk F7 (PySem.W.mg_of X G a7) (F7.binds (ps := ["wishes", "one", "other"]) fun _ _ _ _ _ _ us hl => match us, hl with | [_, _, _], _ => rfl)
  have F8 := fun_mk (st := s_barring) l8 c8 k8
  have D8 : TDef K mg "barring" s_barring ["wishes", "one", "other"] := tdef_mk F8 (PySem.W.mg_of X G a8) (F8.binds (ps := ["wishes", "one", "other"]) fun _ _ _ _ _ _ us hl => match us, hl with | [_, _, _], _ => rfl)
  have F9 := fun_mk (st := s_all_turns) l9 c9 k9
  have D9 : TDef K mg "all_turns" s_all_turns ["many"] := tdef_mk F9 (PySem.W.mg_of X G a9) (F9.binds (ps := ["many"]) fun _ _ _ _ _ _ us hl => match us, hl with | [_], _ => rfl)
  have F10 := fun_mk (st := s_barred_turns) l10 c10 k10
  have D10 : TDef K mg "barred_turns" s_barred_turns ["many", "wishes"] := tdef_mk F10 (PySem.W.mg_of X G a10) (F10.binds (ps := ["many", "wishes"]) fun _ _ _ _ _ _ us hl => match us, hl with | [_, _], _ => rfl)
  have F11 := fun_mk (st := s_paths_from) l11 c11 k11
  have D11 : TDef K mg "paths_from" s_paths_from ["barred", "start"] := tdef_mk F11 (PySem.W.mg_of X G a11) (F11.binds (ps := ["barred", "start"]) fun _ _ _ _ _ _ us hl => match us, hl with | [_, _], _ => rfl)
  have F12 := fun_mk (st := s_bits_of) l12 c12 k12
  have D12 : TDef K mg "bits_of" s_bits_of ["books"] := tdef_mk F12 (PySem.W.mg_of X G a12) (F12.binds (ps := ["books"]) fun _ _ _ _ _ _ us hl => match us, hl with | [_], _ => rfl)
  have F13 := fun_mk (st := s_has) l13 c13 k13
  have D13 : TDef K mg "has" s_has ["bits", "book"] := tdef_mk F13 (PySem.W.mg_of X G a13) (F13.binds (ps := ["bits", "book"]) fun _ _ _ _ _ _ us hl => match us, hl with | [_, _], _ => rfl)
  have F14 := fun_mk (st := s_Search___init__) l14 c14 k14
  have D14 : TMk K (aCls mg "Search") "Search.__init__" s_Search___init__ ["self", "many", "wishes"] := by rw [ec0]; exact tmk_mk F14 ⟨mk0, a14, i14, kc0⟩ (F14.binds (ps := ["self", "many", "wishes"]) fun _ _ _ _ _ _ us hl => match us, hl with | [_, _, _], _ => rfl)
  have F15 := fun_mk (st := s_Search_next_books) l15 c15 k15
  have D15 : TMeth K (aCls mg "Search") "next_books" "Search.next_books" s_Search_next_books ["self", "begun"] := by rw [ec0]; exact tmeth_mk F15 ⟨a15, i15, k15⟩ (F15.binds (ps := ["self", "begun"]) fun _ _ _ _ _ _ us hl => match us, hl with | [_, _], _ => rfl)
  have F16 := fun_mk (st := s_Search_completed) l16 c16 k16
  have D16 : TMeth K (aCls mg "Search") "completed" "Search.completed" s_Search_completed ["self", "begun"] := by rw [ec0]; exact tmeth_mk F16 ⟨a16, i16, k16⟩ (F16.binds (ps := ["self", "begun"]) fun _ _ _ _ _ _ us hl => match us, hl with | [_, _], _ => rfl)
  have F17 := fun_mk (st := s_Search_completed_with) l17 c17 k17
  have D17 : TMeth K (aCls mg "Search") "completed_with" "Search.completed_with" s_Search_completed_with ["self", "begun", "books"] := by rw [ec0]; exact tmeth_mk F17 ⟨a17, i17, k17⟩ (F17.binds (ps := ["self", "begun", "books"]) fun _ _ _ _ _ _ us hl => match us, hl with | [_, _, _], _ => rfl)
  have F18 := fun_mk (st := s_first) l18 c18 k18
  have D18 : TDef K mg "first" s_first ["many", "wishes"] := tdef_mk F18 (PySem.W.mg_of X G a18) (F18.binds (ps := ["many", "wishes"]) fun _ _ _ _ _ _ us hl => match us, hl with | [_, _], _ => rfl)
  have F19 := fun_mk (st := s_ring_of_paths) l19 c19 k19
  have D19 : TDef K mg "ring_of_paths" s_ring_of_paths ["one", "other"] := tdef_mk F19 (PySem.W.mg_of X G a19) (F19.binds (ps := ["one", "other"]) fun _ _ _ _ _ _ us hl => match us, hl with | [_, _], _ => rfl)
  have F20 := fun_mk (st := s_ring_among) l20 c20 k20
  have D20 : TDef K mg "ring_among" s_ring_among ["barred", "paths"] := tdef_mk F20 (PySem.W.mg_of X G a20) (F20.binds (ps := ["barred", "paths"]) fun _ _ _ _ _ _ us hl => match us, hl with | [_, _], _ => rfl)
  have F21 := fun_mk (st := s_odd_ring) l21 c21 k21
  have D21 : TDef K mg "odd_ring" s_odd_ring ["many", "wishes"] := tdef_mk F21 (PySem.W.mg_of X G a21) (F21.binds (ps := ["many", "wishes"]) fun _ _ _ _ _ _ us hl => match us, hl with | [_, _], _ => rfl)
  have F22 := fun_mk (st := s_clash) l22 c22 k22
  have D22 : TDef K mg "clash" s_clash ["many", "wishes"] := tdef_mk F22 (PySem.W.mg_of X G a22) (F22.binds (ps := ["many", "wishes"]) fun _ _ _ _ _ _ us hl => match us, hl with | [_, _], _ => rfl)
  have F23 := fun_mk (st := s__law_split) l23 c23 k23
  have D23 : TDef K mg "_law_split" s__law_split ["wishes", "a", "b", "c"] := tdef_mk F23 (PySem.W.mg_of X G a23) (F23.binds (ps := ["wishes", "a", "b", "c"]) fun _ _ _ _ _ _ us hl => match us, hl with | [_, _, _, _], _ => rfl)
  have F24 := fun_mk (st := s__law_bar) l24 c24 k24
  have D24 : TDef K mg "_law_bar" s__law_bar ["wishes", "one", "other"] := tdef_mk F24 (PySem.W.mg_of X G a24) (F24.binds (ps := ["wishes", "one", "other"]) fun _ _ _ _ _ _ us hl => match us, hl with | [_, _, _], _ => rfl)
  have F25 := fun_mk (st := s__law_whole) l25 c25 k25
  have D25 : TDef K mg "_law_whole" s__law_whole ["found"] := tdef_mk F25 (PySem.W.mg_of X G a25) (F25.binds (ps := ["found"]) fun _ _ _ _ _ _ us hl => match us, hl with | [_], _ => rfl)
  have F26 := fun_mk (st := s__law_is_turn) l26 c26 k26
  have D26 : TDef K mg "_law_is_turn" s__law_is_turn ["found", "many"] := tdef_mk F26 (PySem.W.mg_of X G a26) (F26.binds (ps := ["found", "many"]) fun _ _ _ _ _ _ us hl => match us, hl with | [_, _], _ => rfl)
  have F27 := fun_mk (st := s__law_together) l27 c27 k27
  have D27 : TDef K mg "_law_together" s__law_together ["order", "wish"] := tdef_mk F27 (PySem.W.mg_of X G a27) (F27.binds (ps := ["order", "wish"]) fun _ _ _ _ _ _ us hl => match us, hl with | [_, _], _ => rfl)
  have F28 := fun_mk (st := s__law_keeps) l28 c28 k28
  have D28 : TDef K mg "_law_keeps" s__law_keeps ["order", "wishes"] := tdef_mk F28 (PySem.W.mg_of X G a28) (F28.binds (ps := ["order", "wishes"]) fun _ _ _ _ _ _ us hl => match us, hl with | [_, _], _ => rfl)
  have F29 := fun_mk (st := s__law_is_order) l29 c29 k29
  have D29 : TDef K mg "_law_is_order" s__law_is_order ["found", "many"] := tdef_mk F29 (PySem.W.mg_of X G a29) (F29.binds (ps := ["found", "many"]) fun _ _ _ _ _ _ us hl => match us, hl with | [_, _], _ => rfl)
  have F30 := fun_mk (st := s__law_is_ring) l30 c30 k30
  have D30 : TDef K mg "_law_is_ring" s__law_is_ring ["found", "many", "wishes"] := tdef_mk F30 (PySem.W.mg_of X G a30) (F30.binds (ps := ["found", "many", "wishes"]) fun _ _ _ _ _ _ us hl => match us, hl with | [_, _, _], _ => rfl)
  have F31 := fun_mk (st := s__law_left) l31 c31 k31
  have D31 : TDef K mg "_law_left" s__law_left ["many", "wishes"] := tdef_mk F31 (PySem.W.mg_of X G a31) (F31.binds (ps := ["many", "wishes"]) fun _ _ _ _ _ _ us hl => match us, hl with | [_, _], _ => rfl)
  have F32 := fun_mk (st := s__law_right) l32 c32 k32
  have D32 : TDef K mg "_law_right" s__law_right ["found", "many", "wishes"] := tdef_mk F32 (PySem.W.mg_of X G a32) (F32.binds (ps := ["found", "many", "wishes"]) fun _ _ _ _ _ _ us hl => match us, hl with | [_, _, _], _ => rfl)
  have F33 := fun_mk (st := s_law) l33 c33 k33
  have T : Txt K mg := ⟨PySem.W.mg_none_of X G z0, PySem.W.mg_none_of X G z1, PySem.W.mg_none_of X G z2, PySem.W.mg_none_of X G z3, PySem.W.mg_none_of X G z4, PySem.W.mg_none_of X G z5, PySem.W.mg_none_of X G z6, PySem.W.mg_none_of X G z7, PySem.W.mg_none_of X G z8, PySem.W.mg_none_of X G z9, PySem.W.mg_none_of X G z10, by rw [ec0]; exact G0, by rw [ec0]; exact ⟨pg0, hd0, po0, sa0⟩, by rw [ec0]; exact nf0_0, by rw [ec0]; exact nf0_1, by rw [ec0]; exact nf0_2, D0, D1, D2, D3, D4, D5, D6, D7, D8, D9, D10, D11, D12, D13, D14, D15, D16, D17, D18, D19, D20, D21, D22, D23, D24, D25, D26, D27, D28, D29, D30, D31, D32⟩
  exact ⟨PySem.W.fnOf "law" "law" (defArgs s_law) (defBody s_law) (defScope s_law) .none kV33 dc33 pm33 an33 cd33 ct33, fun s v => .of_eq rfl, fun base _ _ => ok_law F33 T⟩
theorem walk {l : PySem.W.OpenLaw} {q : Program} {loose : List Str} {XP : (Str → Option Value) → Heap → Prop} {YP : World → Heap → Prop} {d : DefRec} {K : Params → PySem.W.Frag} (hn : l.most = some 63) (hdf : d.params.defaults = [])
    (hY : ∀ (w : World) (h : Heap), YP w h → (K w.params).In h)
    (F : ∀ (w : World) (mg : Str → Option Value) (fa : Addr) (h : Heap), (K w.params).In h → h.Ns mainGlobals mg → mg d.name = some (.ref fa) →
      ∃ fd : FuncData, (∀ (s : Shared) (u : Value), BindsTo s fd ⟨[u], []⟩ [("script", u)]) ∧ ∀ base : Heap, (K w.params).In base → base.Ns mainGlobals mg → FnOk l.prog w (K w.params) mg base CX0 22 fa fd ["script"] (spLaw (K w.params))) :
    PySem.W.WalkO q loose XP YP l.row.toRowW d [] (fun f vs => PySem.call f vs) :=
  L2.walk_of (n := 63) (k := 22) (x := "script") (CX := fun _ => CX0) (sp := fun w => spLaw (K w.params)) hn (by decide) hdf ⟨rfl, by decide, by decide⟩ hY F (fun _ _ a ns hl _ hS => ⟨a, ns, rfl, hS, hl, fun _ => rfl⟩) fun _ _ _ _ _ z => z
end K08
open PySem PySem.W PyProof.Rows
set_option maxRecDepth 100000 in
set_option maxHeartbeats 0 in
theorem PySem.Challenge.cw_shelfruns_k08_whole_clashes_holds : PySem.Challenge.rw_shelfruns_k08_whole_clashes.Holds := by
  w_on; o_law; k_head; (case hw => w_witness2)
  k_fill
  refine K08.walk (l := PySem.Challenge.rw_shelfruns_k08_whole_clashes) rfl rfl (fun w h Y => PySem.W.kIn_of Y) ?F
  case F =>
    intro w mg fa h KX G hmg
    refine' K08.all_mk KX G hmg ?aC0 ?pg0 ?hd0 ?po0 ?sa0 ?mk0 ?kc0 ?nf0_0 ?nf0_1 ?nf0_2 ?a0 ?l0 ?c0 ?k0 ?a1 ?l1 ?c1 ?k1 ?a2 ?l2 ?c2 ?k2 ?a3 ?l3 ?c3 ?k3 ?a4 ?l4 ?c4 ?k4 ?a5 ?l5 ?c5 ?k5 ?a6 ?l6 ?c6 ?k6 ?a7 ?l7 ?c7 ?k7 ?a8 ?l8 ?c8 ?k8 ?a9 ?l9 ?c9 ?k9 ?a10 ?l10 ?c10 ?k10 ?a11 ?l11 ?c11 ?k11 ?a12 ?l12 ?c12 ?k12 ?a13 ?l13 ?c13 ?k13 ?a14 ?i14 ?l14 ?c14 ?k14 ?a15 ?i15 ?l15 ?c15 ?k15 ?a16 ?i16 ?l16 ?c16 ?k16 ?a17 ?i17 ?l17 ?c17 ?k17 ?a18 ?l18 ?c18 ?k18 ?a19 ?l19 ?c19 ?k19 ?a20 ?l20 ?c20 ?k20 ?a21 ?l21 ?c21 ?k21 ?a22 ?l22 ?c22 ?k22 ?a23 ?l23 ?c23 ?k23 ?a24 ?l24 ?c24 ?k24 ?a25 ?l25 ?c25 ?k25 ?a26 ?l26 ?c26 ?k26 ?a27 ?l27 ?c27 ?k27 ?a28 ?l28 ?c28 ?k28 ?a29 ?l29 ?c29 ?k29 ?a30 ?l30 ?c30 ?k30 ?a31 ?l31 ?c31 ?k31 ?a32 ?l32 ?c32 ?k32 ?a33 ?l33 ?c33 ?k33 ?z0 ?z1 ?z2 ?z3 ?z4 ?z5 ?z6 ?z7 ?z8 ?z9 ?z10
    (case aC0 => k_is)
    (case pg0 => k_is)
    (case hd0 => k_is)
    (case po0 => k_is)
    (case sa0 => k_is)
    (case mk0 => k_is)
    (case kc0 => k_is)
    (case nf0_0 => k_is)
    (case nf0_1 => k_is)
    (case nf0_2 => k_is)
    (case a0 => k_is)
    (case l0 => k_is)
    (case c0 => k_is)
    (case k0 => k_is)
    (case a1 => k_is)
    (case l1 => k_is)
    (case c1 => k_is)
    (case k1 => k_is)
    (case a2 => k_is)
    (case l2 => k_is)
    (case c2 => k_is)
    (case k2 => k_is)
    (case a3 => k_is)
    (case l3 => k_is)
    (case c3 => k_is)
    (case k3 => k_is)
    (case a4 => k_is)
    (case l4 => k_is)
    (case c4 => k_is)
    (case k4 => k_is)
    (case a5 => k_is)
    (case l5 => k_is)
    (case c5 => k_is)
    (case k5 => k_is)
    (case a6 => k_is)
    (case l6 => k_is)
    (case c6 => k_is)
    (case k6 => k_is)
    (case a7 => k_is)
    (case l7 => k_is)
    (case c7 => k_is)
    (case k7 => k_is)
    (case a8 => k_is)
    (case l8 => k_is)
    (case c8 => k_is)
    (case k8 => k_is)
    (case a9 => k_is)
    (case l9 => k_is)
    (case c9 => k_is)
    (case k9 => k_is)
    (case a10 => k_is)
    (case l10 => k_is)
    (case c10 => k_is)
    (case k10 => k_is)
    (case a11 => k_is)
    (case l11 => k_is)
    (case c11 => k_is)
    (case k11 => k_is)
    (case a12 => k_is)
    (case l12 => k_is)
    (case c12 => k_is)
    (case k12 => k_is)
    (case a13 => k_is)
    (case l13 => k_is)
    (case c13 => k_is)
    (case k13 => k_is)
    (case a14 => k_is)
    (case i14 => k_is)
    (case l14 => k_is)
    (case c14 => k_is)
    (case k14 => k_is)
    (case a15 => k_is)
    (case i15 => k_is)
    (case l15 => k_is)
    (case c15 => k_is)
    (case k15 => k_is)
    (case a16 => k_is)
    (case i16 => k_is)
    (case l16 => k_is)
    (case c16 => k_is)
    (case k16 => k_is)
    (case a17 => k_is)
    (case i17 => k_is)
    (case l17 => k_is)
    (case c17 => k_is)
    (case k17 => k_is)
    (case a18 => k_is)
    (case l18 => k_is)
    (case c18 => k_is)
    (case k18 => k_is)
    (case a19 => k_is)
    (case l19 => k_is)
    (case c19 => k_is)
    (case k19 => k_is)
    (case a20 => k_is)
    (case l20 => k_is)
    (case c20 => k_is)
    (case k20 => k_is)
    (case a21 => k_is)
    (case l21 => k_is)
    (case c21 => k_is)
    (case k21 => k_is)
    (case a22 => k_is)
    (case l22 => k_is)
    (case c22 => k_is)
    (case k22 => k_is)
    (case a23 => k_is)
    (case l23 => k_is)
    (case c23 => k_is)
    (case k23 => k_is)
    (case a24 => k_is)
    (case l24 => k_is)
    (case c24 => k_is)
    (case k24 => k_is)
    (case a25 => k_is)
    (case l25 => k_is)
    (case c25 => k_is)
    (case k25 => k_is)
    (case a26 => k_is)
    (case l26 => k_is)
    (case c26 => k_is)
    (case k26 => k_is)
    (case a27 => k_is)
    (case l27 => k_is)
    (case c27 => k_is)
    (case k27 => k_is)
    (case a28 => k_is)
    (case l28 => k_is)
    (case c28 => k_is)
    (case k28 => k_is)
    (case a29 => k_is)
    (case l29 => k_is)
    (case c29 => k_is)
    (case k29 => k_is)
    (case a30 => k_is)
    (case l30 => k_is)
    (case c30 => k_is)
    (case k30 => k_is)
    (case a31 => k_is)
    (case l31 => k_is)
    (case c31 => k_is)
    (case k31 => k_is)
    (case a32 => k_is)
    (case l32 => k_is)
    (case c32 => k_is)
    (case k32 => k_is)
    (case a33 => k_is)
    (case l33 => k_is)
    (case c33 => k_is)
    (case k33 => k_is)
    (case z0 => k_is); (case z1 => k_is); (case z2 => k_is); (case z3 => k_is); (case z4 => k_is); (case z5 => k_is); (case z6 => k_is); (case z7 => k_is); (case z8 => k_is); (case z9 => k_is); (case z10 => k_is)

