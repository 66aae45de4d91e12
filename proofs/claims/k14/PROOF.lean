import PyProof.Rows.All
import Wide.All
import OpenK.AllK
import Wide.FinOn
import Lean
import PyProof.EqAt
import PyProof.EqKinds
import PyProof.TupleCall
import PySem.Challenge.RW_shelfruns_k14_texts_refused
set_option Elab.async false
set_option linter.all false
set_option maxRecDepth 100000
namespace L2
open PySem PySem.Spec PyProof.Rows

abbrev Key := Sum Int Str
def keyIs : Key → Value → Bool
  | .inl k, v => Value.isInt k v
  | .inr x, v => Value.isStrOf x v
def keyH (w : World) : Key → Int
  | .inl k => hashInt k
  | .inr x => hashStr w x
theorem keyIs_shape : ∀ {k : Key} {v : Value}, keyIs k v = true → (∃ i t, k = Sum.inl i ∧ v = Value.int i t) ∨ (∃ x t, k = Sum.inr x ∧ v = Value.str x t)
  | .inl i, v, h => by
    obtain ⟨t, e⟩ := Value.isInt_shape (k := i) (v := v) h
    exact .inl ⟨i, t, rfl, e⟩
  | .inr x, v, h => by
    obtain ⟨t, e⟩ := Value.isStrOf_shape (x := x) (v := v) h
    exact .inr ⟨x, t, rfl, e⟩
theorem key_ll (a b : Int) : decide ((Sum.inl a : Key) = Sum.inl b) = (a == b) := by
  by_cases e : a = b
  · subst e; simp
  · have h : ¬ (Sum.inl a : Key) = Sum.inl b := fun q => e (Sum.inl.inj q)
    rw [decide_eq_false h]
    exact (beq_eq_false_iff_ne.mpr e).symm
theorem key_rr (a b : Str) : decide ((Sum.inr a : Key) = Sum.inr b) = decide (a = b) := by
  by_cases e : a = b
  · subst e; simp
  · have h : ¬ (Sum.inr a : Key) = Sum.inr b := fun q => e (Sum.inr.inj q)
    rw [decide_eq_false h, decide_eq_false e]
theorem key_lr (a : Int) (b : Str) : decide ((Sum.inl a : Key) = Sum.inr b) = false := decide_eq_false (fun q => nomatch q)
theorem key_rl (a : Str) (b : Int) : decide ((Sum.inr a : Key) = Sum.inl b) = false := decide_eq_false (fun q => nomatch q)

def mixKind (prog : Program) (w : World) : PySem.KeyKind prog w Key where
  is := keyIs
  hash := keyH w
  inj := fun v a b ha hb => by
    rcases keyIs_shape ha with ⟨i, t, rfl, rfl⟩ | ⟨x, t, rfl, rfl⟩
    · rcases keyIs_shape hb with ⟨j, u, rfl, e⟩ | ⟨y, u, rfl, e⟩
      · injection e with e1 _; rw [e1]
      · exact nomatch e
    · rcases keyIs_shape hb with ⟨j, u, rfl, e⟩ | ⟨y, u, rfl, e⟩
      · exact nomatch e
      · injection e with e1 _; rw [e1]
  byValue := fun k v h => by
    rcases keyIs_shape h with ⟨i, t, rfl, rfl⟩ | ⟨x, t, rfl, rfl⟩ <;> rfl
  pyHash := fun hv h => by
    rcases keyIs_shape hv with ⟨i, t, rfl, rfl⟩ | ⟨x, t, rfl, rfl⟩
    · exact wpAny_pyHash_int h
    · exact wpAny_pyHash_str h
  eqBool := fun hu hv h => by
    rcases keyIs_shape hu with ⟨i, t, rfl, rfl⟩ | ⟨x, t, rfl, rfl⟩
    · rcases keyIs_shape hv with ⟨j, u, rfl, rfl⟩ | ⟨y, u, rfl, rfl⟩
      · rw [key_ll] at h; exact wpAny_eqBool_int h
      · rw [key_lr] at h; exact SeqAt.EqAt.int_str i t y u _ _ _ _ h
    · rcases keyIs_shape hv with ⟨j, u, rfl, rfl⟩ | ⟨y, u, rfl, rfl⟩
      · rw [key_rl] at h; exact SeqAt.EqAt.str_int x t j u _ _ _ _ h
      · rw [key_rr] at h; exact wpAny_eqBool_str h
  «strs» := fun k x t v h => by
    rcases keyIs_shape h with ⟨i, u, rfl, e⟩ | ⟨y, u, rfl, e⟩
    · exact nomatch e
    · injection e with e1 _
      subst e1
      cases v <;> rfl

end L2

namespace L2
open PySem PySem.Spec PyProof.Rows

inductive V where
  | non | bl (b : Bool) | int (i : Int) | str (x : Str) | byt (b : Array UInt8) | flt (b : UInt64) | ref (a : Addr) | ty (n : String)
  deriving DecidableEq

def RelV : V → Value → Prop
  | .non, u => u = Value.none
  | .bl b, u => u = Value.bool b
  | .int i, u => ∃ t, u = Value.int i t
  | .str x, u => ∃ t, u = Value.str x t
  | .byt b, u => ∃ t, u = Value.bytes b t
  | .flt b, u => ∃ t, u = Value.float b t
  | .ref a, u => u = Value.ref a
  | .ty n, u => u = Value.type n

abbrev Vals : List V → List Value → Prop := Paired RelV
theorem Vals.length {xs : List V} {us : List Value} (r : Vals xs us) : xs.length = us.length := Paired.length r
theorem Vals.get : ∀ {xs : List V} {us : List Value} {i : Nat} {x : V}, Vals xs us → xs[i]? = some x → ∃ u, us[i]? = some u ∧ RelV x u
  | _, _, _, _, .nil, e => by simp at e
  | _, _, 0, _, .cons r _, e => by simp at e; subst e; exact ⟨_, rfl, r⟩
  | _, _, i + 1, x, .cons _ t, e => by
    obtain ⟨u, h1, h2⟩ := Vals.get (i := i) (x := x) t (by simpa using e)
    exact ⟨u, by simpa using h1, h2⟩
theorem Vals.append : ∀ {xs ys : List V} {us ws : List Value}, Vals xs us → Vals ys ws → Vals (xs ++ ys) (us ++ ws)
  | _, _, _, _, .nil, s => s
  | _, _, _, _, .cons r t, s => .cons r (Vals.append t s)
theorem Vals.take : ∀ {xs : List V} {us : List Value} (n : Nat), Vals xs us → Vals (xs.take n) (us.take n)
  | _, _, 0, _ => .nil
  | _, _, _ + 1, .nil => .nil
  | _, _, n + 1, .cons r t => .cons r (Vals.take n t)
theorem Vals.drop : ∀ {xs : List V} {us : List Value} (n : Nat), Vals xs us → Vals (xs.drop n) (us.drop n)
  | _, _, 0, r => r
  | _, _, _ + 1, .nil => .nil
  | _, _, n + 1, .cons _ t => Vals.drop n t

def RelO : Option V → Option Value → Prop
  | some v, some u => RelV v u
  | none, none => True
  | _, _ => False
def KV {κ : Type} : List (κ × V) → List (κ × Value) → Prop := Paired fun (p : κ × V) (q : κ × Value) => p.1 = q.1 ∧ RelV p.2 q.2

def kV : Key → V
  | .inl i => .int i
  | .inr x => .str x

inductive HO where
  /-- a list -/
  | lst (xs : List V)
  /-- a tuple (never changes) -/
  | tup (xs : List V)
  /-- a dict whose keys are ints and texts; one whose keys are tuples of ints and texts (the empty one is both) -/
  | dK (kvs : List (Key × V)) | dT (kvs : List (List Key × V))
  /-- a set of ints: its members, its size -/
  | set (S : Int → Bool) (n : Nat)
  /-- an instance of the class at C, its dict at dx, its attributes -/
  | ins (C dx : Addr) (fs : List (Str × V))
  /-- the dict of the instance at x -/
  | own (x : Addr)
  /-- the dict of an exception -/
  | xd (fs : List (Str × V))
  /-- a bound method, f of x -/
  | met (f x : Addr)
  /-- a range object lo, lo + 1, .. below hi -/
  | rng (lo hi : Int)
  /-- a thing that is known to the object (the script; a dict while a loop walks it): read, never written while it is so -/
  | frz (o : Obj) (u : HO)
  /-- a code object's table -/
  | tbl (ps : Array Value)
  /-- any other thing, by what is true of its one object (a def of one's own: SetO a S n := HO.ext fun h => ..) -/
  | ext (φ : Heap → Prop)

abbrev Hp := Addr → Option HO
def upd (H : Hp) (a : Addr) (o : HO) : Hp := fun b => if b = a then some o else H b
theorem upd_same {H : Hp} {a : Addr} {o : HO} : upd H a o a = some o := by unfold upd; rw [if_pos rfl]
theorem upd_ne {H : Hp} {a b : Addr} {o : HO} (h : b ≠ a) : upd H a o b = H b := by unfold upd; rw [if_neg h]
theorem ne_of_none {H : Hp} {a b : Addr} {o : HO} (h : H a = some o) (h' : H b = none) : a ≠ b := by
  intro e; subst e; rw [h] at h'; cases h'

section
variable (P : Program) (w : World)
def ObjOk (H : Hp) (h : Heap) (a : Addr) : HO → Prop
  | .lst xs => xs.length ≤ sizeLine ∧ ∃ (its : List Value) (n : Nat), Vals xs its ∧ h.get? a = some { cls := .type "list", data := .seq its.toArray n }
  | .tup xs => xs.length ≤ sizeLine ∧ ∃ its : List Value, Vals xs its ∧ IsTup h a its.toArray
  | .dK kvs => kvs.length ≤ sizeLine ∧ (a == sysModules) = false ∧ ∃ vs, KV kvs vs ∧ h.DictOf (mixKind P w) a vs
  | .dT kvs => kvs.length ≤ sizeLine ∧ (a == sysModules) = false ∧ ∃ xs : List (List Key × Addr × Value),
      Paired (fun (p : List Key × V) (q : List Key × Addr × Value) => p.1 = q.1 ∧ H q.2.1 = some (.tup (p.1.map kV)) ∧ RelV p.2 q.2.2) kvs xs ∧
      ∃ o es ep, h.get? a = some o ∧ o.ExactDict ∧ o.data = .dict es ep ∧ es.toList = xs.map (entryOfKey (tupleKind (mixKind P w))) ∧ (xs.map (·.1)).Nodup
  | .set S n => h.SetOf (intKind P w) a S n
  | .ins C dx fs => H dx = some (.own a) ∧ fs.length ≤ 1000 ∧ dx ≠ a ∧ h.get? a = some (PySem.W.instObj C dx) ∧
      ∃ mA, h.Ns1 dx mA ∧ (∀ f, RelO (fs.lookup f) (mA f)) ∧ PySem.Within mA (fs.map (·.1))
  | .own _ => ∃ o, h.get? a = some o
  | .xd fs => ∃ mA, h.Ns1 a mA ∧ ∀ f, RelO (fs.lookup f) (mA f)
  | .rng lo hi => ∃ t u v, h.get? a = some { cls := .type "range", data := .fields #[.int lo t, .int hi u, .int 1 v] }
  | .frz o u => h.get? a = some o ∧ ObjOk H h a u
  | .tbl ps => h.get? a = some { cls := .none, data := .fields ps }
  | .met f x => h.get? a = some (PySem.W.methodObj (.ref f) (.ref x))
  | .ext φ => φ h ∧ (∃ o, h.get? a = some o) ∧ ∀ h1 h2 : Heap, φ h1 → (∀ o, h1.get? a = some o → h2.get? a = some o) → φ h2
def HOk (H : Hp) (h : Heap) : Prop := ∀ a o, H a = some o → ObjOk P w H h a o
end

section
variable {P : Program} {w : World} {H H' : Hp} {h h' : Heap} {a : Addr} {o : HO}
theorem ObjOk.lt (x : ObjOk P w H h a o) : a < h.objs.size := by
  cases o with
  | lst xs => obtain ⟨_, _, _, _, e⟩ := x; exact Heap.lt_size e
  | tup xs => obtain ⟨_, _, _, p⟩ := x; exact p.lt
  | dK kvs => obtain ⟨_, _, _, _, o, _, _, e, _⟩ := x; exact Heap.lt_size e
  | dT kvs => obtain ⟨_, _, _, _, o, _, _, e, _⟩ := x; exact Heap.lt_size e
  | set S n => obtain ⟨o, _, _, _, e, _⟩ := x; exact Heap.lt_size e
  | ins C dx fs => obtain ⟨_, _, _, e, _⟩ := x; exact Heap.lt_size e
  | own y => obtain ⟨_, e⟩ := x; exact Heap.lt_size e
  | xd fs => obtain ⟨_, ⟨_, _, _, e, _⟩, _⟩ := x; exact Heap.lt_size e
  | rng lo hi => obtain ⟨_, _, _, e⟩ := x; exact Heap.lt_size e
  | frz ob u => obtain ⟨e, _⟩ := x; exact Heap.lt_size e
  | tbl ps => exact Heap.lt_size (show h.get? a = some _ from x)
  | met f y => exact Heap.lt_size (show h.get? a = some _ from x)
  | ext φ => obtain ⟨_, ⟨_, e⟩, _⟩ := x; exact Heap.lt_size e
theorem Paired.mapP {α β : Type} {F G : α → β → Prop} : ∀ {l₁ : List α} {l₂ : List β}, Paired F l₁ l₂ → (∀ a b, F a b → G a b) → Paired G l₁ l₂
  | _, _, .nil, _ => .nil
  | _, _, .cons r t, f => .cons (f _ _ r) (Paired.mapP t f)
theorem ObjOk.stay (x : ObjOk P w H h a o) (k : ∀ b u, (b = a ∨ H b = some (.own a)) → h.get? b = some u → h'.get? b = some u)
    (ho : ∀ b, H b = some (.own a) → H' b = some (.own a)) (ht : ∀ b xs, H b = some (.tup xs) → H' b = some (.tup xs)) : ObjOk P w H' h' a o := by
  induction o with
  | lst xs => obtain ⟨z, its, n, r, e⟩ := x; exact ⟨z, its, n, r, k _ _ (.inl rfl) e⟩
  | tup xs => obtain ⟨z, its, r, ob, e, c⟩ := x; exact ⟨z, its, r, ob, k _ _ (.inl rfl) e, c⟩
  | dK kvs => obtain ⟨z, y, vs, r, ob, es, ep, e, c⟩ := x; exact ⟨z, y, vs, r, ob, es, ep, k _ _ (.inl rfl) e, c⟩
  | dT kvs =>
    obtain ⟨z, y, xs, r, ob, es, ep, e, c⟩ := x
    exact ⟨z, y, xs, Paired.mapP r fun p q z => ⟨z.1, ht _ _ z.2.1, z.2.2⟩, ob, es, ep, k _ _ (.inl rfl) e, c⟩
  | set S n => obtain ⟨ob, es, ep, t, e, c⟩ := x; exact ⟨ob, es, ep, t, k _ _ (.inl rfl) e, c⟩
  | ins C dx fs =>
    obtain ⟨d, z, ne, e, mA, ⟨od, es, ep, e2, c⟩, r⟩ := x
    exact ⟨ho _ d, z, ne, k _ _ (.inl rfl) e, mA, ⟨od, es, ep, k _ _ (.inr d) e2, c⟩, r⟩
  | own y => obtain ⟨ob, e⟩ := x; exact ⟨ob, k _ _ (.inl rfl) e⟩
  | xd fs => obtain ⟨mA, ⟨od, es, ep, e, c⟩, r⟩ := x; exact ⟨mA, ⟨od, es, ep, k _ _ (.inl rfl) e, c⟩, r⟩
  | rng lo hi => obtain ⟨t, u, v, e⟩ := x; exact ⟨t, u, v, k _ _ (.inl rfl) e⟩
  | frz ob u ih => obtain ⟨e, q⟩ := x; exact ⟨k _ _ (.inl rfl) e, ih q⟩
  | tbl ps =>
    have e : h.get? a = some { cls := .none, data := .fields ps } := x
    show h'.get? a = some { cls := .none, data := .fields ps }
    exact k a _ (.inl rfl) e
  | met f y =>
    have e : h.get? a = some (PySem.W.methodObj (.ref f) (.ref y)) := x
    show h'.get? a = some (PySem.W.methodObj (.ref f) (.ref y))
    exact k a _ (.inl rfl) e
  | ext φ => obtain ⟨p, ⟨o, e⟩, st⟩ := x; exact ⟨st _ _ p fun o q => k _ _ (.inl rfl) q, ⟨o, k _ _ (.inl rfl) e⟩, st⟩
theorem HOk.lt (x : HOk P w H h) (e : H a = some o) : a < h.objs.size := (x a o e).lt
theorem HOk.fresh (x : HOk P w H h) (e : h.objs.size ≤ a) : H a = none := by
  cases q : H a with
  | none => rfl
  | some u => exact absurd (Nat.lt_of_lt_of_le (x.lt q) e) (Nat.lt_irrefl _)
theorem HOk.kept (x : HOk P w H h) (k : ∀ b u, h.get? b = some u → h'.get? b = some u) : HOk P w H h' := fun a o e =>
  (x a o e).stay (fun b u _ q => k b u q) (fun _ q => q) fun _ _ q => q
theorem HOk.laid (x : HOk P w H h) (k : ∀ b u, h.get? b = some u → h'.get? b = some u) (hp : h.objs.size ≤ a) (new : ObjOk P w (upd H a o) h' a o) : HOk P w (upd H a o) h' := fun b u e => by
  have hn := x.fresh hp
  by_cases hb : b = a
  · subst hb; rw [upd_same] at e; cases e; exact new
  · rw [upd_ne hb] at e
    exact (x b u e).stay (fun c v _ q => k c v q) (fun c q => by rw [upd_ne (ne_of_none q hn)]; exact q) fun c xs q => by rw [upd_ne (ne_of_none q hn)]; exact q
end

def Rd (H : Hp) (a : Addr) (u : HO) : Prop := H a = some u ∨ ∃ o, H a = some (.frz o u)
theorem Rd.ok {P : Program} {w : World} {H : Hp} {h : Heap} {a : Addr} {u : HO} (r : Rd H a u) (x : HOk P w H h) : ObjOk P w H h a u := by
  rcases r with r | ⟨o, r⟩
  · exact x a u r
  · obtain ⟨_, q⟩ := x a _ r
    exact q
def Mut : Option HO → Prop
  | some (.lst _) => True
  | some (.dK _) => True
  | some (.dT _) => True
  | some (.set _ _) => True
  | some (.ins _ _ _) => True
  | some (.ext _) => True
  | _ => False
section
variable {P : Program} {w : World} {H : Hp} {h h' : Heap} {x e : Addr} {o' : HO}
theorem HOk.write (ok : HOk P w H h) (mu : Mut (H x)) (he : e = x ∨ H e = some (.own x)) (k : ∀ b u, b ≠ e → h.get? b = some u → h'.get? b = some u) (heo : ∃ u, h'.get? e = some u)
    (new : ObjOk P w (upd H x o') h' x o') : HOk P w (upd H x o') h' := fun b u q => by
  have nown : ∀ c y, H c = some (.own y) → c ≠ x := fun c y r z => by subst z; rw [r] at mu; exact mu
  have ntup : ∀ c xs, H c = some (.tup xs) → c ≠ x := fun c xs r z => by subst z; rw [r] at mu; exact mu
  by_cases hb : b = x
  · subst hb; rw [upd_same] at q; cases q; exact new
  · rw [upd_ne hb] at q
    by_cases hbe : b = e
    · have q' : H b = some (.own x) := by
        rcases he with z | z
        · exact absurd (hbe.trans z) hb
        · rw [hbe]; exact z
      rw [q] at q'; cases q'
      obtain ⟨v, hv⟩ := heo
      exact ⟨v, by rw [hbe]; exact hv⟩
    · refine (ok b u q).stay (fun c v hc r => k c v ?_ r) (fun c r => by rw [upd_ne (nown c b r)]; exact r) fun c xs r => by rw [upd_ne (ntup c xs r)]; exact r
      rcases hc with rfl | hc
      · exact hbe
      · rintro rfl
        rcases he with z | z
        · exact nown c b hc z
        · rw [hc] at z; cases z; exact hb rfl
end

structure Un (fs ex : List Addr) (H H' : Hp) (h h' : Heap) : Prop where
  keep : ∀ b o, h.get? b = some o → H b = none → b ∉ fs → b ∉ ex → h'.get? b = some o
  slot : ∀ b o, h.get? b = some o → H b = none → b ∈ fs → b ∉ ex → ∃ sl, h'.get? b = some { o with slots := sl }
  free : ∀ b o, h.get? b = some o → H b = none → b ∉ ex → H' b = none
  there : ∀ b o, h.get? b = some o → b ∉ ex → ∃ o', h'.get? b = some o'
  tups : ∀ b xs, H b = some (.tup xs) → H' b = some (.tup xs)
  frzs : ∀ b o u, H b = some (.frz o u) → H' b = some (.frz o u)
  tbls : ∀ b ps, H b = some (.tbl ps) → ∃ more, H' b = some (.tbl (ps ++ more))
section
variable {fs fs' ex ex' : List Addr} {H H1 H2 : Hp} {h h1 h2 h' : Heap} {a x e : Addr} {o : HO}
theorem Un.any (u : Un fs ex H H1 h h1) {b : Addr} {ob : Obj} (q : h.get? b = some ob) (n : H b = none) (hx : b ∉ ex) : ∃ sl, h1.get? b = some { ob with slots := sl } := by
  by_cases hb : b ∈ fs
  · exact u.slot b ob q n hb hx
  · exact ⟨ob.slots, u.keep b ob q n hb hx⟩
theorem Un.kept (k : ∀ b u, h.get? b = some u → h'.get? b = some u) : Un fs ex H H h h' :=
  ⟨fun b ob q _ _ _ => k b ob q, fun b ob q _ _ _ => ⟨ob.slots, k b ob q⟩, fun _ _ _ n _ => n, fun b ob q _ => ⟨ob, k b ob q⟩, fun _ _ q => q, fun _ _ _ q => q, fun _ ps q => ⟨#[], by rw [q]; simp⟩⟩
theorem Un.refl : Un fs ex H H h h := Un.kept fun _ _ q => q
theorem Un.laid (k : ∀ b u, h.get? b = some u → h'.get? b = some u) (hp : h.objs.size ≤ a) (hn : H a = none) : Un fs ex H (upd H a o) h h' where
  keep := fun b u q _ _ _ => k b u q
  slot := fun b u q _ _ _ => ⟨u.slots, k b u q⟩
  free := fun b u q n _ => by rw [upd_ne (Nat.ne_of_lt (Nat.lt_of_lt_of_le (Heap.lt_size q) hp))]; exact n
  there := fun b u q _ => ⟨u, k b u q⟩
  tups := fun b xs q => by rw [upd_ne (ne_of_none q hn)]; exact q
  frzs := fun b u xs q => by rw [upd_ne (ne_of_none q hn)]; exact q
  tbls := fun b ps q => ⟨#[], by rw [upd_ne (ne_of_none q hn), q]; simp⟩
theorem Un.write (mu : Mut (H x)) (he : e = x ∨ H e = some (.own x)) (k : ∀ b u, b ≠ e → h.get? b = some u → h'.get? b = some u) (heo : ∃ u, h'.get? e = some u) : Un fs ex H (upd H x o) h h' := by
  have hx : ∀ b, H b = none → b ≠ x := fun b n z => by subst z; rw [n] at mu; exact mu
  have hb : ∀ b, H b = none → b ≠ e := fun b n z => by
    subst z
    rcases he with r | r
    · exact hx b n r
    · rw [n] at r; cases r
  have hm : ∀ b u, H b = some u → ¬ Mut (some u) → b ≠ x := fun b u q nm z => by subst z; rw [q] at mu; exact nm mu
  refine ⟨fun b u q n _ _ => k b u (hb b n) q, fun b u q n _ _ => ⟨u.slots, k b u (hb b n) q⟩, fun b u q n _ => by rw [upd_ne (hx b n)]; exact n, fun b u q _ => ?_,
    fun b xs q => by rw [upd_ne (hm b _ q fun z => z)]; exact q, fun b u xs q => by rw [upd_ne (hm b _ q fun z => z)]; exact q, fun b ps q => ⟨#[], by rw [upd_ne (hm b _ q fun z => z), q]; simp⟩⟩
  by_cases hbe : b = e
  · subst hbe; exact heo
  · exact ⟨u, k b u hbe q⟩
end

def trk (h : Heap) (H : Hp) : List Addr := (List.range h.objs.size).filter fun a => (H a).isSome
def hidT (h : Heap) (H : Hp) : Heap := PySem.W.hideAll h (trk h H)
theorem hidT_size (h : Heap) (H : Hp) : (hidT h H).objs.size = h.objs.size := PySem.W.hideAll_size _ _
theorem hidT_get {h : Heap} {H : Hp} {b : Addr} {o : Obj} (e : h.get? b = some o) (n : H b = none) : (hidT h H).get? b = some o :=
  PySem.W.hideAll_get _ e fun hm => by
    have q : (H b).isSome = true := (List.mem_filter.mp hm).2
    rw [n] at q; simp at q
theorem of_hidT {h : Heap} {H : Hp} {b : Addr} {o : Obj} (e : (hidT h H).get? b = some o) : h.get? b = some o ∧ H b = none := by
  have e' : h.get? b = some o := PySem.W.of_hideAll (trk h H) e
  refine ⟨e', ?_⟩
  cases q : H b with
  | none => rfl
  | some x =>
    have hm : b ∈ trk h H := List.mem_filter.mpr ⟨List.mem_range.mpr (Heap.lt_size e'), by simp [q]⟩
    have z : (hidT h H).get? b = none := PySem.W.hideAll_none (trk h H) hm
    rw [z] at e; cases e

def allNews (g h : Heap) (L : Addr) : List (Addr × Obj) := (List.range h.objs.size).filterMap fun a => if a = L ∨ (g.get? a).isSome = true then none else (h.get? a).map fun o => (a, o)
def rest (g h : Heap) (L d : Addr) : List (Addr × Obj) := (allNews g h L).filter fun p => decide (p.1 ≠ d)
end L2

namespace L2
open PySem PySem.Spec PyProof.Rows

structure Mod (K : PySem.W.Frag) (mg : Str → Option Value) (base : Heap) : Prop where
  kin : K.In base
  glob : base.Ns mainGlobals mg
  blt : ∃ mb, base.Ns builtinsNs mb ∧ ∀ x : Str, x ≠ "__name__" → mb x = bootBuiltins x
  nolimit : base.NoLimit

structure Cx where
  prog : Program
  w : World
  K : PySem.W.Frag
  mg : Str → Option Value
  base : Heap
  A : Around
  N : List Str
  s₀ : Shared
  H₀ : Hp
  env : Env
  outer : List Env
  stack : List Env
  ex : List Addr
  fn : Str → Bool
  calm : Bool
  pn : List (Addr × Obj)
  xe : Value → Shared → Prop
def frs (l : List Env) : List Addr := l.filterMap (·.frame)
abbrev Cx.fs (X : Cx) : List Addr := frs X.outer

def Vis (sc : Scope) (x : Str) : Prop := sc.names.lookup x = some .local ∨ sc.names.lookup x = some .cell ∨ sc.names.lookup x = some .free
def Loc (sc : Scope) (x : Str) : Prop := sc.names.lookup x = some .local ∨ sc.names.lookup x = some .cell
def Look (env : Env) (h : Heap) (m : Str → Option Value) (x : Str) (u : Value) : Prop :=
  (env.kindOf x = some .local ∧ m x = some u) ∨ ((env.kindOf x = some .cell ∨ env.kindOf x = some .free) ∧ ∃ c, env.cells.lookup x = some c ∧ h.IsCell c (some u))

structure Cx.Ok (X : Cx) : Prop where
  mod : Mod X.K X.mg X.base
  kind : X.env.scope.kind = .function
  glob : X.env.globals = mainGlobals
  blt : X.env.builtins = builtinsNs
  above : X.s₀.heap.objs.size ≤ X.env.locals
  inj : ∀ x y c, X.env.cells.lookup x = some c → X.env.cells.lookup y = some c → x = y
  has : ∀ x, (X.env.kindOf x = some .cell ∨ X.env.kindOf x = some .free) → ∃ c, X.env.cells.lookup x = some c
  cab : ∀ x c, X.fn x = true → X.env.cells.lookup x = some c → X.s₀.heap.objs.size ≤ c
  hd : X.calm = true → X.A.handled = none
  frames : X.A.frames = some X.stack
  stk : X.stack = X.outer ∨ (X.stack = X.env :: X.outer ∧ X.env.frame = some X.env.locals)
  exf : ∀ b ∈ X.ex, b ≠ X.env.locals ∧ ∀ x c, X.env.cells.lookup x = some c → c ≠ b
  bs : ∀ b o, X.base.get? b = some o → X.s₀.heap.get? b = some o ∧ X.H₀ b = none
  bsz : X.base.objs.size ≤ X.s₀.heap.objs.size
  noex : ∀ b o, X.base.get? b = some o → b ∉ X.ex
  exfs : ∀ b ∈ X.ex, b ∉ X.fs
  funs : X.s₀.heap.FunFrames X.base X.outer
  frf : ∀ b ∈ X.fs, X.H₀ b = none

structure Inv (X : Cx) (pins : List (Addr × Obj)) (σ : List (Option V)) (H : Hp) (s : Shared) : Prop where
  ok : X.Ok
  os : s.os = X.s₀.os
  bare : AllBare s.gens
  base : Un X.fs X.ex X.H₀ H X.s₀.heap s.heap
  loc : ∃ m, s.heap.Ns X.env.locals m ∧ ∀ (i : Nat) (x : Str) (v : V), X.N[i]? = some x → σ[i]? = some (some v) → Vis X.env.scope x → ∃ u, RelV v u ∧ Look X.env s.heap m x u
  cell : ∀ x c, X.env.cells.lookup x = some c → ∃ v, s.heap.IsCell c v
  free : H X.env.locals = none
  freeC : ∀ x c, X.env.cells.lookup x = some c → H c = none
  pin : ∀ p ∈ X.pn ++ pins, s.heap.get? p.1 = some p.2 ∧ H p.1 = none ∧ p.1 ≠ X.env.locals ∧ p.1 ∉ X.fs ∧ ∀ v, p.2.data ≠ .cell v
  hok : HOk X.prog X.w H s.heap
  len : σ.length = X.N.length

section
variable {X : Cx} {pins : List (Addr × Obj)} {σ : List (Option V)} {H H' : Hp} {s : Shared} {h' : Heap}

theorem Cx.Ok.nofr (ok : X.Ok) {b : Addr} {o : Obj} (e : X.base.get? b = some o) : b ∉ X.fs := fun hb => by
  have := (ok.funs.mem hb).1
  rw [e] at this; cases this
theorem Inv.bs (I : Inv X pins σ H s) : ∀ b o, X.base.get? b = some o → s.heap.get? b = some o ∧ H b = none := fun b o e =>
  ⟨I.base.keep b o (I.ok.bs b o e).1 (I.ok.bs b o e).2 (I.ok.nofr e) (I.ok.noex b o e), I.base.free b o (I.ok.bs b o e).1 (I.ok.bs b o e).2 (I.ok.noex b o e)⟩
theorem Inv.bk (I : Inv X pins σ H s) : ∀ b o, X.base.get? b = some o → s.heap.get? b = some o := fun b o e => (I.bs b o e).1
theorem Inv.mod (I : Inv X pins σ H s) : Mod X.K X.mg X.base := I.ok.mod
theorem Inv.kIn (I : Inv X pins σ H s) : X.K.In s.heap := I.ok.mod.kin.keeps I.bk
theorem Inv.fr (I : Inv X pins σ H s) : ∃ m, Fr X.base X.env.locals s.heap m :=
  let ⟨m, hn, _⟩ := I.loc
  ⟨m, hn, I.bk, Nat.le_trans I.ok.bsz I.ok.above⟩
theorem Inv.lt (I : Inv X pins σ H s) : X.env.locals < s.heap.objs.size := let ⟨_, hn, _⟩ := I.loc; hn.lt
theorem Inv.sz (I : Inv X pins σ H s) : X.s₀.heap.objs.size ≤ s.heap.objs.size := Nat.le_trans I.ok.above (Nat.le_of_lt I.lt)
theorem Inv.nofs (I : Inv X pins σ H s) {a : Addr} (h : s.heap.objs.size ≤ a) : a ∉ X.fs := fun hb => by
  obtain ⟨_, o, ho, _⟩ := I.ok.funs.mem hb
  exact absurd (Nat.lt_of_lt_of_le (Heap.lt_size ho) (Nat.le_trans I.sz h)) (Nat.lt_irrefl _)
theorem Inv.cne (I : Inv X pins σ H s) : ∀ x c, X.env.cells.lookup x = some c → c ≠ X.env.locals := fun x c e z => by
  obtain ⟨v, o, ho, hd⟩ := I.cell x c e
  obtain ⟨m, ⟨o', es, ep, ho', hd', _⟩, _⟩ := I.loc
  rw [z, ho'] at ho; cases ho; rw [hd'] at hd; cases hd
theorem Inv.funs (I : Inv X pins σ H s) : s.heap.FunFrames X.base X.outer := by
  have all : ∀ (l : List Env), (∀ b ∈ frs l, b ∈ X.fs) → X.s₀.heap.FunFrames X.base l → s.heap.FunFrames X.base l := by
    intro l
    induction l with
    | nil => intro _ _; trivial
    | cons env r ih =>
      intro hs hl
      obtain ⟨hk, ⟨L, o, hf, hn, ho, hd⟩, hr⟩ := hl
      have hL : L ∈ X.fs := hs L (by unfold frs; rw [List.filterMap_cons, hf]; exact List.mem_cons_self)
      obtain ⟨sl, e⟩ := I.base.slot L o ho (I.ok.frf L hL) hL fun z => I.ok.exfs L z hL
      exact ⟨hk, ⟨L, _, hf, hn, e, hd⟩, ih (fun b hb => hs b (by unfold frs; rw [List.filterMap_cons, hf]; exact List.mem_cons_of_mem _ hb)) hr⟩
  exact all X.outer (fun _ hb => hb) I.ok.funs

theorem Inv.stack (I : Inv X pins σ H s) : s.heap.FunFrames X.base X.stack := by
  rcases I.ok.stk with e | ⟨e, hf⟩
  · rw [e]; exact I.funs
  · rw [e]
    obtain ⟨m, hn, _⟩ := I.loc
    refine .cons (by rw [I.ok.kind]; decide) hf hn ?_ I.funs
    exact Heap.get?_none_of_le (Nat.le_trans I.ok.bsz I.ok.above)
theorem Inv.stkSub (I : Inv X pins σ H s) : ∀ b ∈ frs X.stack, b ∈ X.env.locals :: X.fs := fun b hb => by
  rcases I.ok.stk with e | ⟨e, hf⟩
  · rw [e] at hb; exact List.mem_cons_of_mem _ hb
  · rw [e] at hb
    unfold frs at hb
    rw [List.filterMap_cons, hf] at hb
    exact hb
theorem Inv.stkFree (I : Inv X pins σ H s) : ∀ b ∈ frs X.stack, H b = none := fun b hb => by
  rcases List.mem_cons.mp (I.stkSub b hb) with e | hb
  · rw [e]; exact I.free
  · obtain ⟨_, o, ho, _⟩ := I.ok.funs.mem hb
    exact I.base.free b o ho (I.ok.frf b hb) fun z => I.ok.exfs b z hb

theorem Inv.step {g' : Array GenState} {t' : Nat} {d' : Drawn} {ch : List Addr} (I : Inv X pins σ H s)
    (hch : ∀ b ∈ ch, (b ∈ X.ex ∨ X.s₀.heap.objs.size ≤ b) ∧ b ≠ X.env.locals ∧ (∀ x c, X.env.cells.lookup x = some c → c ≠ b) ∧ ∀ p ∈ X.pn ++ pins, p.1 ≠ b)
    (keep : ∀ b o, b ≠ X.env.locals → b ∉ X.fs → b ∉ ch → s.heap.get? b = some o → H b = none → h'.get? b = some o)
    (slot : ∀ b o, b ≠ X.env.locals → b ∈ X.fs → b ∉ ch → s.heap.get? b = some o → H b = none → ∃ sl, h'.get? b = some { o with slots := sl }) (free : ∀ b o, b ∉ ch → s.heap.get? b = some o → H b = none → H' b = none)
    (there : ∀ b o, b ∉ ch → s.heap.get? b = some o → ∃ o', h'.get? b = some o')
    (tups : ∀ b xs, H b = some (.tup xs) → H' b = some (.tup xs)) (frzs : ∀ b o u, H b = some (.frz o u) → H' b = some (.frz o u)) (tbls : ∀ b ps, H b = some (.tbl ps) → ∃ more, H' b = some (.tbl (ps ++ more)))
    (ns : ∀ m, s.heap.Ns X.env.locals m → h'.Ns X.env.locals m) (hok : HOk X.prog X.w H' h') (hg : AllBare g') :
    Inv X pins σ H' { s with heap := h', gens := g', drawn := d', toks := t' } := by
  have neL : ∀ b o, X.s₀.heap.get? b = some o → b ≠ X.env.locals := fun b o e => Nat.ne_of_lt (Nat.lt_of_lt_of_le (Heap.lt_size e) I.ok.above)
  have neC : ∀ b o, X.s₀.heap.get? b = some o → b ∉ X.ex → b ∉ ch := fun b o e hx hb => by
    rcases (hch b hb).1 with z | z
    · exact hx z
    · exact absurd (Nat.lt_of_lt_of_le (Heap.lt_size e) z) (Nat.lt_irrefl _)
  have cellK : ∀ x c, X.env.cells.lookup x = some c → ∀ v, s.heap.IsCell c v → h'.IsCell c v := fun x c e v ⟨o, ho, hd⟩ => by
    have nch : c ∉ ch := fun z => (hch c z).2.2.1 x c e rfl
    by_cases hc : c ∈ X.fs
    · obtain ⟨sl, q⟩ := slot c o (I.cne x c e) hc nch ho (I.freeC x c e)
      exact ⟨_, q, hd⟩
    · exact ⟨o, keep c o (I.cne x c e) hc nch ho (I.freeC x c e), hd⟩
  refine ⟨I.ok, I.os, hg, ⟨fun b o e n hb hx => ?_, fun b o e n hb hx => ?_, fun b o e n hx => ?_, fun b o e hx => ?_, fun b xs e => tups b xs (I.base.tups b xs e), fun b o xs e => frzs b o xs (I.base.frzs b o xs e), fun b ps e => ?_⟩, ?_, fun x c e => ?_, ?_, fun x c e => ?_, fun p hp => ?_, hok, I.len⟩
  · exact keep b o (neL b o e) hb (neC b o e hx) (I.base.keep b o e n hb hx) (I.base.free b o e n hx)
  · obtain ⟨sl, e1⟩ := I.base.slot b o e n hb hx
    obtain ⟨sl', e2⟩ := slot b _ (neL b o e) hb (neC b o e hx) e1 (I.base.free b o e n hx)
    exact ⟨sl', e2⟩
  · obtain ⟨o', e1⟩ := I.base.there b o e hx
    exact free b o' (neC b o e hx) e1 (I.base.free b o e n hx)
  · obtain ⟨o', e1⟩ := I.base.there b o e hx
    exact there b o' (neC b o e hx) e1
  · obtain ⟨m1, e1⟩ := I.base.tbls b ps e
    obtain ⟨m2, e2⟩ := tbls b _ e1
    exact ⟨m1 ++ m2, by rw [e2, Array.append_assoc]⟩
  · obtain ⟨m, hn, hl⟩ := I.loc
    refine ⟨m, ns m hn, fun i x v e1 e2 e3 => ?_⟩
    obtain ⟨u, r, l⟩ := hl i x v e1 e2 e3
    refine ⟨u, r, ?_⟩
    rcases l with l | ⟨k, c, e, z⟩
    · exact .inl l
    · exact .inr ⟨k, c, e, cellK x c e _ z⟩
  · obtain ⟨v, z⟩ := I.cell x c e
    exact ⟨v, cellK x c e v z⟩
  · obtain ⟨m, ⟨o, _, _, ho, _⟩, _⟩ := I.loc
    exact free _ o (fun z => (hch _ z).2.1 rfl) ho I.free
  · obtain ⟨v, o, ho, hd⟩ := I.cell x c e
    exact free c o (fun z => (hch c z).2.2.1 x c e rfl) ho (I.freeC x c e)
  · obtain ⟨e, n, ne, nf, d⟩ := I.pin p hp
    have nch : p.1 ∉ ch := fun z => (hch p.1 z).2.2.2 p hp rfl
    exact ⟨keep p.1 p.2 ne nf nch e n, free p.1 p.2 nch e n, ne, nf, d⟩
theorem Inv.un {t' : Nat} (I : Inv X pins σ H s) (u : Un X.fs [] H H' s.heap h') (hok : HOk X.prog X.w H' h') : Inv X pins σ H' { s with heap := h', toks := t' } := by
  obtain ⟨m, ⟨o, es, ep, ho, r⟩, _⟩ := id I.loc
  obtain ⟨sl, hL⟩ := u.any ho I.free (by simp)
  exact I.step (g' := s.gens) (d' := s.drawn) (ch := []) (fun _ z => nomatch z) (fun b o _ hb _ e n => u.keep b o e n hb (by simp)) (fun b o _ hb _ e n => u.slot b o e n hb (by simp)) (fun b o _ e n => u.free b o e n (by simp)) (fun b o _ e => u.there b o e (by simp)) u.tups u.frzs u.tbls (fun m' hm => by
    obtain ⟨o', es', ep', ho', r'⟩ := hm
    rw [ho] at ho'; cases ho'
    exact ⟨_, es', ep', hL, r'⟩) hok I.bare
theorem Inv.call {g' : Array GenState} {t' : Nat} {d' : Drawn} {ch : List Addr} (I : Inv X pins σ H s) (u : Un (frs X.stack) ch H H' s.heap h') (hok : HOk X.prog X.w H' h') (hg : AllBare g')
    (hch : ∀ b ∈ ch, (b ∈ X.ex ∨ X.s₀.heap.objs.size ≤ b) ∧ b ≠ X.env.locals ∧ (∀ x c, X.env.cells.lookup x = some c → c ≠ b) ∧ ∀ p ∈ X.pn ++ pins, p.1 ≠ b) :
    Inv X pins σ H' { s with heap := h', gens := g', drawn := d', toks := t' } := by
  obtain ⟨m, ⟨o, es, ep, ho, r⟩, _⟩ := id I.loc
  obtain ⟨sl, hL⟩ := u.any ho I.free fun z => (hch _ z).2.1 rfl
  exact I.step (ch := ch) hch (fun b o hL hb hc e n => u.keep b o e n (fun z => (List.mem_cons.mp (I.stkSub b z)).elim hL hb) hc) (fun b o _ _ hc e n => u.any e n hc) (fun b o hc e n => u.free b o e n hc) (fun b o hc e => u.there b o e hc) u.tups u.frzs u.tbls (fun m' hm => by
    obtain ⟨o', es', ep', ho', r'⟩ := hm
    rw [ho] at ho'; cases ho'
    exact ⟨_, es', ep', hL, r'⟩) hok hg
theorem Inv.turned {t' : Nat} {it : Addr} (I : Inv X pins σ H s) (k : ∀ b o, b ≠ it → s.heap.get? b = some o → h'.get? b = some o) (hn : H it = none) (hL : it ≠ X.env.locals)
    (h1 : it ∈ X.ex ∨ X.s₀.heap.objs.size ≤ it) (h2 : ∀ x c, X.env.cells.lookup x = some c → c ≠ it) (h3 : ∀ p ∈ X.pn ++ pins, p.1 ≠ it) : Inv X pins σ H { s with heap := h', toks := t' } := by
  have nit : ∀ b u, H b = some u → b ≠ it := fun b u e z => by rw [z, hn] at e; cases e
  refine I.step (g' := s.gens) (d' := s.drawn) (ch := [it]) (fun b hb => ?_) (fun b o _ _ hc e _ => k b o (fun z => hc (by simp [z])) e) (fun b o _ _ hc e _ => ⟨o.slots, k b o (fun z => hc (by simp [z])) e⟩) (fun _ _ _ _ n => n)
    (fun b o hc e => ⟨o, k b o (fun z => hc (by simp [z])) e⟩) (fun _ _ e => e) (fun _ _ _ e => e) (fun b ps e => ⟨#[], by rw [e]; simp⟩) (fun m hm => ?_) (fun b u e => ?_) I.bare
  · have e : b = it := by simpa using hb
    subst e
    exact ⟨h1, hL, h2, h3⟩
  · obtain ⟨o, es, ep, ho, r⟩ := hm
    exact ⟨o, es, ep, k _ o (Ne.symm hL) ho, r⟩
  · refine (I.hok b u e).stay (fun c v hc q => k c v ?_ q) (fun _ q => q) fun _ _ q => q
    rcases hc with z | z
    · rw [z]; exact nit b u e
    · exact nit c _ z
theorem Inv.tok (I : Inv X pins σ H s) (t : Nat) : Inv X pins σ H { s with toks := t } := I.un (h' := s.heap) (t' := t) Un.refl I.hok
theorem Inv.kept {t' : Nat} (I : Inv X pins σ H s) (k : ∀ b u, s.heap.get? b = some u → h'.get? b = some u) : Inv X pins σ H { s with heap := h', toks := t' } := I.un (Un.kept k) (I.hok.kept k)
theorem Inv.laid {a : Addr} {o : HO} {t' : Nat} (I : Inv X pins σ H s) (k : ∀ b u, s.heap.get? b = some u → h'.get? b = some u) (hp : s.heap.objs.size ≤ a) (new : ObjOk X.prog X.w (upd H a o) h' a o) :
    Inv X pins σ (upd H a o) { s with heap := h', toks := t' } := I.un (Un.laid k hp (I.hok.fresh hp)) (I.hok.laid k hp new)
theorem Inv.write {x e : Addr} {o : HO} {t' : Nat} (I : Inv X pins σ H s) (mu : Mut (H x)) (he : e = x ∨ H e = some (.own x)) (k : ∀ b u, b ≠ e → s.heap.get? b = some u → h'.get? b = some u) (heo : ∃ u, h'.get? e = some u)
    (new : ObjOk X.prog X.w (upd H x o) h' x o) : Inv X pins σ (upd H x o) { s with heap := h', toks := t' } := I.un (Un.write mu he k heo) (I.hok.write mu he k heo new)
theorem Inv.weak {σ' : List (Option V)} (I : Inv X pins σ H s) (hl : σ'.length = σ.length) (w : ∀ (i : Nat) v, σ'[i]? = some (some v) → σ[i]? = some (some v)) : Inv X pins σ' H s :=
  ⟨I.ok, I.os, I.bare, I.base, let ⟨m, hn, hl'⟩ := I.loc; ⟨m, hn, fun i x v e1 e2 e3 => hl' i x v e1 (w i v e2) e3⟩, I.cell, I.free, I.freeC, I.pin, I.hok, hl.trans I.len⟩
theorem Inv.pins_of {pins' : List (Addr × Obj)} (I : Inv X pins σ H s) (h : ∀ p ∈ pins', s.heap.get? p.1 = some p.2 ∧ H p.1 = none ∧ p.1 ≠ X.env.locals ∧ p.1 ∉ X.fs ∧ ∀ v, p.2.data ≠ .cell v) : Inv X pins' σ H s :=
  ⟨I.ok, I.os, I.bare, I.base, I.loc, I.cell, I.free, I.freeC, fun p hp => (List.mem_append.mp hp).elim (fun z => I.pin p (List.mem_append_left _ z)) (h p), I.hok, I.len⟩

theorem nodup_ix {N : List Str} (hN : N.Nodup) {i j : Nat} {x : Str} (a : N[i]? = some x) (b : N[j]? = some x) : i = j := by
  obtain ⟨h1, e1⟩ := List.getElem?_eq_some_iff.mp a
  obtain ⟨h2, e2⟩ := List.getElem?_eq_some_iff.mp b
  exact (List.getElem_inj hN).mp (e1.trans e2.symm)

theorem store_ok2 {M : Model} {A : Around} {E : Value → Shared → Prop} {i : Nat} {x : Str} {v : V} {u : Value} {Q : Unit → Shared → Prop} (I : Inv X pins σ H s) (hN : X.N.Nodup) (hi : X.N[i]? = some x) (hx : Loc X.env.scope x) (r : RelV v u)
    (h : ∀ s', Inv X pins (σ.set i (some v)) H s' → (∃ a, Heap.SameBut a s.heap s'.heap ∧ (a = X.env.locals ∨ X.env.cells.lookup x = some a)) → Q () s') (hf : X.fn x = true ∨ X.env.scope.names.lookup x = some .local := by first | exact .inl rfl | exact .inr rfl | assumption) : wpAny M A (storeName X.env x u) Q E s := by
  obtain ⟨m, hn, hl⟩ := id I.loc
  have hcls : (X.env.scope.kind == .class || (X.env.scope.kind == .module && X.env.locals != X.env.globals)) = false := by rw [I.ok.kind]; rfl
  have hiσ : i < σ.length := by rw [I.len]; exact (List.getElem?_eq_some_iff.mp hi).1
  have cne := I.cne
  have tracked : ∀ {a : Addr} {h' : Heap}, (∃ o, s.heap.get? a = some o ∧ H a = none) → Heap.SameBut a s.heap h' → HOk X.prog X.w H h' := fun {a h'} ha hs b ob e => by
    obtain ⟨_, _, hfree⟩ := ha
    refine (I.hok b ob e).stay (fun c w' hc q => (hs.2 c ?_).trans q) (fun _ q => q) fun _ _ q => q
    rintro rfl
    rcases hc with rfl | hc
    · rw [hfree] at e; cases e
    · rw [hfree] at hc; cases hc
  rcases hx with hk | hk
  · refine wpAny_storeName_local hk hn (fun h' hn' hs => ?_) hcls
    obtain ⟨oL, _, _, hoL, _⟩ := id hn
    refine h _ ⟨I.ok, I.os, I.bare, ⟨fun b o e n hb hx => ?_, fun b o e n hb hx => ?_, I.base.free, fun b o e hx => ?_, I.base.tups, I.base.frzs, I.base.tbls⟩, ⟨_, hn', fun j y v' e1 e2 e3 => ?_⟩, fun y c e => ?_, I.free, I.freeC, fun p hp => ?_, tracked ⟨oL, hoL, I.free⟩ hs, by simpa using I.len⟩ ⟨_, hs, .inl rfl⟩
    · exact (hs.2 b (Nat.ne_of_lt (Nat.lt_of_lt_of_le (Heap.lt_size e) I.ok.above))).trans (I.base.keep b o e n hb hx)
    · obtain ⟨sl, e1⟩ := I.base.slot b o e n hb hx
      exact ⟨sl, (hs.2 b (Nat.ne_of_lt (Nat.lt_of_lt_of_le (Heap.lt_size e) I.ok.above))).trans e1⟩
    · obtain ⟨o', e1⟩ := I.base.there b o e hx
      exact ⟨o', (hs.2 b (Nat.ne_of_lt (Nat.lt_of_lt_of_le (Heap.lt_size e) I.ok.above))).trans e1⟩
    · by_cases hj : j = i
      · subst hj
        rw [hi] at e1; cases e1
        rw [List.getElem?_set_self hiσ] at e2
        cases e2
        exact ⟨u, r, .inl ⟨hk, by simp⟩⟩
      · rw [List.getElem?_set_ne (Ne.symm hj)] at e2
        obtain ⟨u', r', q⟩ := hl j y v' e1 e2 e3
        refine ⟨u', r', ?_⟩
        rcases q with ⟨k, e⟩ | ⟨k, c, e, z⟩
        · refine .inl ⟨k, ?_⟩
          have : y ≠ x := fun e => hj (nodup_ix hN e1 (e ▸ hi))
          simp [this, e]
        · exact .inr ⟨k, c, e, z.sameBut hs (cne y c e)⟩
    · obtain ⟨w', z⟩ := I.cell y c e
      exact ⟨w', z.sameBut hs (cne y c e)⟩
    · obtain ⟨e, n, ne, nf, d⟩ := I.pin p hp
      exact ⟨(hs.2 p.1 ne).trans e, n, ne, nf, d⟩
  · have hfn : X.fn x = true := by
      rcases hf with z | z
      · exact z
      · rw [z] at hk; cases hk
    obtain ⟨c, hc⟩ := I.ok.has x (.inl hk)
    obtain ⟨w', z⟩ := I.cell x c hc
    refine wpAny_storeName_cell I.ok.kind hk hc z (fun h' hc' hs => ?_)
    obtain ⟨oc, hoc, hocd⟩ := id z
    refine h { s with heap := h' } ⟨I.ok, I.os, I.bare, ⟨fun b o e n hb hx => ?_, fun b o e n hb hx => ?_, I.base.free, fun b o e hx => ?_, I.base.tups, I.base.frzs, I.base.tbls⟩, ⟨m, hn.sameBut hs (Ne.symm (cne x c hc)), fun j y v' e1 e2 e3 => ?_⟩, fun y c' e => ?_, I.free, I.freeC, fun p hp => ?_, tracked ⟨oc, hoc, I.freeC x c hc⟩ hs, by simpa using I.len⟩ ⟨c, hs, .inr hc⟩
    · exact (hs.2 b (Nat.ne_of_lt (Nat.lt_of_lt_of_le (Heap.lt_size e) (I.ok.cab x c hfn hc)))).trans (I.base.keep b o e n hb hx)
    · obtain ⟨sl, e1⟩ := I.base.slot b o e n hb hx
      exact ⟨sl, (hs.2 b (Nat.ne_of_lt (Nat.lt_of_lt_of_le (Heap.lt_size e) (I.ok.cab x c hfn hc)))).trans e1⟩
    · obtain ⟨o', e1⟩ := I.base.there b o e hx
      exact ⟨o', (hs.2 b (Nat.ne_of_lt (Nat.lt_of_lt_of_le (Heap.lt_size e) (I.ok.cab x c hfn hc)))).trans e1⟩
    · by_cases hj : j = i
      · subst hj
        rw [hi] at e1; cases e1
        rw [List.getElem?_set_self hiσ] at e2
        cases e2
        exact ⟨u, r, .inr ⟨.inl hk, c, hc, hc'⟩⟩
      · rw [List.getElem?_set_ne (Ne.symm hj)] at e2
        obtain ⟨u', r', q⟩ := hl j y v' e1 e2 e3
        refine ⟨u', r', ?_⟩
        rcases q with q | ⟨k, c', e, z'⟩
        · exact .inl q
        · refine .inr ⟨k, c', e, z'.sameBut hs ?_⟩
          rintro rfl
          exact hj (nodup_ix hN e1 (I.ok.inj _ _ _ e hc ▸ hi))
    · by_cases hcc : c' = c
      · subst hcc; exact ⟨_, hc'⟩
      · obtain ⟨w2, z2⟩ := I.cell y c' e
        exact ⟨w2, z2.sameBut hs hcc⟩
    · obtain ⟨e, n, ne, nf, d⟩ := I.pin p hp
      refine ⟨(hs.2 p.1 ?_).trans e, n, ne, nf, d⟩
      intro q
      rw [q, hoc] at e
      have q' : oc = p.2 := Option.some.inj e
      exact d w' (by rw [← q']; exact hocd)
theorem store_ok {M : Model} {A : Around} {E : Value → Shared → Prop} {i : Nat} {x : Str} {v : V} {u : Value} {Q : Unit → Shared → Prop} (I : Inv X pins σ H s) (hN : X.N.Nodup) (hi : X.N[i]? = some x) (hx : Loc X.env.scope x) (r : RelV v u)
    (h : ∀ s', Inv X pins (σ.set i (some v)) H s' → Q () s') (hf : X.fn x = true ∨ X.env.scope.names.lookup x = some .local := by first | exact .inl rfl | exact .inr rfl | assumption) : wpAny M A (storeName X.env x u) Q E s :=
  store_ok2 I hN hi hx r (fun s' I' _ => h s' I') hf
theorem Inv.call' {s' : Shared} {ch : List Addr} (I : Inv X pins σ H s) (ho : s'.os = s.os) (u : Un (frs X.stack) ch H H' s.heap s'.heap) (hok : HOk X.prog X.w H' s'.heap) (hg : AllBare s'.gens)
    (hch : ∀ b ∈ ch, (b ∈ X.ex ∨ X.s₀.heap.objs.size ≤ b) ∧ b ≠ X.env.locals ∧ (∀ x c, X.env.cells.lookup x = some c → c ≠ b) ∧ ∀ p ∈ X.pn ++ pins, p.1 ≠ b) : Inv X pins σ H' s' := by
  obtain ⟨h', g', d', t', o'⟩ := s'
  have e : o' = s.os := ho
  subst e
  exact I.call (g' := g') (t' := t') (d' := d') u hok hg hch
end

abbrev XK := Value → Option Addr → Hp → Prop
abbrev St := List (Option V)
abbrev VK := V → Hp → Prop
abbrev TE := St → Hp → VK → Prop
abbrev TT := St → Hp → (Bool → Hp → Prop) → Prop
abbrev TA := St → Hp → (List V → Hp → Prop) → Prop
structure Ends where
  nx : St → Hp → Prop
  rt : VK
  bk : St → Hp → Prop := fun _ _ => False
  ct : St → Hp → Prop := fun _ _ => False
abbrev TS := Ends → St → Hp → Prop

def EP (X : Cx) (pins : List (Addr × Obj)) (σ : St) (Q : VK) (u : Value) (s' : Shared) : Prop := ∃ v H', Inv X pins σ H' s' ∧ RelV v u ∧ Q v H'
def TP (X : Cx) (pins : List (Addr × Obj)) (σ : St) (Q : Bool → Hp → Prop) (b : Bool) (s' : Shared) : Prop := ∃ H', Inv X pins σ H' s' ∧ Q b H'
def AP (X : Cx) (pins : List (Addr × Obj)) (σ : St) (Q : List V → Hp → Prop) (us : List Value) (s' : Shared) : Prop := ∃ vs H', Inv X pins σ H' s' ∧ Vals vs us ∧ Q vs H'
def SP (X : Cx) (pins : List (Addr × Obj)) (D : Ends) (f : Flow) (s' : Shared) : Prop :=
  match f with
  | .next => ∃ σ' H', Inv X pins σ' H' s' ∧ D.nx σ' H'
  | .brk => ∃ σ' H', Inv X pins σ' H' s' ∧ D.bk σ' H'
  | .cont => ∃ σ' H', Inv X pins σ' H' s' ∧ D.ct σ' H'
  | .ret u => ∃ v σ' H', Inv X pins σ' H' s' ∧ RelV v u ∧ D.rt v H'

def PE (X : Cx) (e : Expr) (t : TE) : Prop :=
  ∀ (pins : List (Addr × Obj)) (s : Shared) (σ : St) (H : Hp) (Q : VK), Inv X pins σ H s → t σ H Q → wpAny (model X.prog X.w) X.A (eval e X.env) (EP X pins σ Q) X.xe s
def PT (X : Cx) (e : Expr) (t : TT) : Prop :=
  ∀ (pins : List (Addr × Obj)) (s : Shared) (σ : St) (H : Hp) (Q : Bool → Hp → Prop), Inv X pins σ H s → t σ H Q → wpAny (model X.prog X.w) X.A (isTrue e X.env (eval e X.env)) (TP X pins σ Q) X.xe s
def PW (X : Cx) (e : Expr) (t : TT) : Prop :=
  ∀ (whole : Sem Value) (pins : List (Addr × Obj)) (s : Shared) (σ : St) (H : Hp) (Q : Bool → Hp → Prop), Inv X pins σ H s → t σ H Q → wpAny (model X.prog X.w) X.A (isTrue e X.env whole) (TP X pins σ Q) X.xe s
theorem PW.pt {X : Cx} {e : Expr} {t : TT} (h : PW X e t) : PT X e t := h _
def PA (X : Cx) (es : List Expr) (t : TA) : Prop :=
  ∀ (pos : Pos) (pins : List (Addr × Obj)) (s : Shared) (σ : St) (H : Hp) (Q : List V → Hp → Prop), Inv X pins σ H s → t σ H Q → wpAny (model X.prog X.w) X.A (spliced (backTo pos (starEach es X.env))) (AP X pins σ Q) X.xe s
def PS (X : Cx) (st : Stmt) (t : TS) : Prop :=
  ∀ (pins : List (Addr × Obj)) (s : Shared) (σ : St) (H : Hp) (D : Ends), Inv X pins σ H s → t D σ H → wpAny (model X.prog X.w) X.A (exec st X.env) (SP X pins D) X.xe s
def PSs (X : Cx) (st : List Stmt) (t : TS) : Prop :=
  ∀ (pins : List (Addr × Obj)) (s : Shared) (σ : St) (H : Hp) (D : Ends), Inv X pins σ H s → t D σ H → wpAny (model X.prog X.w) X.A (execs st X.env) (SP X pins D) X.xe s
theorem thn {α : Type} {t : Sem α} {Q Q' : α → Shared → Prop} {M : Model} {A : Around} {E : Value → Shared → Prop} {s : Shared} (h : wpAny M A t Q E s) (hQ : ∀ a s, Q a s → Q' a s) : wpAny M A t Q' E s := wpAny_mono h hQ fun _ _ x => x
end L2

namespace L2
open PySem PySem.Spec PyProof.Rows
section
variable {X : Cx}

theorem bin {a b : Expr} {ta tb : TE} (ha : PE X a ta) (hb : PE X b tb) {pins : List (Addr × Obj)} {s : Shared} {σ : St} {H : Hp} {R : V → V → Hp → Prop} (I : Inv X pins σ H s) (h : ta σ H fun x H1 => tb σ H1 fun y H2 => R x y H2)
    {α : Type} {Q : α → Shared → Prop} {f : Value → Value → Sem α}
    (hf : ∀ v u s2 x y H2, Inv X pins σ H2 s2 → RelV x v → RelV y u → R x y H2 → wpAny (model X.prog X.w) X.A (f v u) Q X.xe s2) :
    wpAny (model X.prog X.w) X.A (eval a X.env) (fun v s₁ => wpAny (model X.prog X.w) X.A (eval b X.env) (fun u s₂ => wpAny (model X.prog X.w) X.A (f v u) Q X.xe s₂) X.xe s₁) X.xe s := by
  refine thn (ha pins s σ H _ I h) fun v s1 ⟨x, H1, I1, r1, q1⟩ => ?_
  refine thn (hb pins s1 σ H1 _ I1 q1) fun u s2 ⟨y, H2, I2, r2, q2⟩ => ?_
  exact hf v u s2 x y H2 I2 r1 r2 q2

def tVar (i : Nat) : TE := fun σ H Q => ∃ v, σ[i]? = some (some v) ∧ Q v H
def tC (v : V) : TE := fun _ H Q => Q v H
theorem pe_var {i : Nat} {x : Str} {pos : Pos} (hN : X.N[i]? = some x) (hv : Vis X.env.scope x) (hd : (x == ("__debug__" : Str)) = false := by decide) (hcd : (x == ("__classdict__" : Str)) = false := by decide) : PE X (.Name x pos) (tVar i) := by
  intro pins s σ H Q I h
  obtain ⟨v, e, h⟩ := h
  obtain ⟨m, hn, hl⟩ := I.loc
  obtain ⟨u, r, l⟩ := hl i x v hN e hv
  have fin : EP X pins σ Q u s := ⟨v, H, I, r, h⟩
  rcases l with ⟨hk, hm⟩ | ⟨hk, c, hc, hcell⟩
  · exact wpAny_Name (wpAny_loadName_local I.ok.kind hk hn hm fin) hd
  · rcases hk with hk | hk
    · exact wpAny_Name (wpAny_loadName_cell I.ok.kind hk hc hcell fin) hd
    · exact wpAny_Name (wpAny_loadName_free I.ok.kind hk hc hcell fin hcd) hd
theorem pe_int {i j pos} : PE X (.Constant (.int i) j pos) (tC (.int i)) := fun _ _ _ H _ I h => wpAny_Constant_int ⟨.int i, H, I.tok _, ⟨_, rfl⟩, h⟩
theorem pe_bl {b j pos} : PE X (.Constant (.bool b) j pos) (tC (.bl b)) := fun _ _ _ H _ I h => Constant_bool ⟨.bl b, H, I, rfl, h⟩
theorem pe_non {j pos} : PE X (.Constant .none j pos) (tC .non) := fun _ _ _ H _ I h => Constant_none ⟨.non, H, I, rfl, h⟩
theorem pe_str {x j pos} : PE X (.Constant (.str x) j pos) (tC (.str x)) := fun _ _ _ H _ I h => Calls.Constant_str ⟨.str x, H, I.tok _, ⟨_, rfl⟩, h⟩

def Gl (X : Cx) (x : Str) : Prop := X.env.kindOf x = some .globalImplicit
theorem ld_glob {E : Value → Shared → Prop} {pins : List (Addr × Obj)} {s : Shared} {σ : St} {H : Hp} {x : Str} {u : Value} {pos : Pos} {Q : Value → Shared → Prop} (I : Inv X pins σ H s) (hg : Gl X x) (hm : X.mg x = some u) (h : Q u s)
    (hd : (x == ("__debug__" : Str)) = false := by decide) : wpAny (model X.prog X.w) X.A (eval (.Name x pos) X.env) Q E s :=
  Calls.Name_function_global I.ok.kind hg (Calls.loadGlobal_global (by rw [I.ok.glob]; exact I.mod.glob.keeps I.bk) hm h) hd
theorem ld_blt {E : Value → Shared → Prop} {pins : List (Addr × Obj)} {s : Shared} {σ : St} {H : Hp} {x : Str} {u : Value} {pos : Pos} {Q : Value → Shared → Prop} (I : Inv X pins σ H s) (hg : Gl X x) (hm : X.mg x = none) (hv : bootBuiltins x = some u) (h : Q u s)
    (hn : x ≠ "__name__" := by decide) (hd : (x == ("__debug__" : Str)) = false := by decide) : wpAny (model X.prog X.w) X.A (eval (.Name x pos) X.env) Q E s := by
  obtain ⟨mb, h1, h2⟩ := I.mod.blt
  exact Calls.Name_function_global I.ok.kind hg (Calls.loadGlobal_builtin (by rw [I.ok.glob]; exact I.mod.glob.keeps I.bk) hm (by rw [I.ok.blt]; exact h1.keeps I.bk) ((h2 x hn).trans hv) h) hd
theorem pe_glob {x : Str} {v : V} {u : Value} {pos : Pos} (hg : Gl X x) (hm : X.mg x = some u) (r : RelV v u) (hd : (x == ("__debug__" : Str)) = false := by decide) : PE X (.Name x pos) (tC v) :=
  fun _ _ _ H _ I h => ld_glob I hg hm ⟨v, H, I, r, h⟩ hd
theorem pe_bltn {x : Str} {v : V} {u : Value} {pos : Pos} (hg : Gl X x) (hm : X.mg x = none) (hv : bootBuiltins x = some u) (r : RelV v u) (hn : x ≠ "__name__" := by decide) (hd : (x == ("__debug__" : Str)) = false := by decide) : PE X (.Name x pos) (tC v) :=
  fun _ _ _ H _ I h => ld_blt I hg hm hv ⟨v, H, I, r, h⟩ hn hd

variable {a b : Expr} {ta tb : TE} {pos : Pos}

def PC (X : Cx) (op : CmpOp) (a b : Expr) (t : TE) : Prop :=
  ∀ (pins : List (Addr × Obj)) (s : Shared) (σ : St) (H : Hp) (Q : VK), Inv X pins σ H s → t σ H Q →
    wpAny (model X.prog X.w) X.A (eval a X.env) (fun v s₁ => wpAny (model X.prog X.w) X.A (eval b X.env) (fun u s₂ => wpAny (model X.prog X.w) X.A (compareOp op v u) (EP X pins σ Q) X.xe s₂) X.xe s₁) X.xe s
theorem nobehind (b : Expr) {op : CmpOp} (h : op ≠ .In) (h2 : op ≠ .NotIn) : behindInMarks op b = false := by
  have e1 : (op == CmpOp.In) = false := by cases op <;> first | rfl | exact absurd rfl h
  have e2 : (op == CmpOp.NotIn) = false := by cases op <;> first | rfl | exact absurd rfl h2
  cases b <;> simp [behindInMarks, e1, e2]
def tB (t : TE) : TT := fun σ H Q => t σ H fun x H1 => ∃ c, x = .bl c ∧ Q c H1
theorem pt_cmp {op : CmpOp} {t : TE} (h : PC X op a b t) (h1 : behindInMarks op b = false := by first | exact nobehind _ (by decide) (by decide) | rfl) : PT X (.Compare a [op] [b] pos) (tB t) := by
  intro pins s σ H Q I hw
  refine wpAny_isTrue_Compare1 (thn (h pins s σ H _ I hw) fun v s1 h1 => thn h1 fun u s2 h2 => thn h2 fun c s3 ⟨x, H1, I1, r1, q1⟩ => ?_) h1
  obtain ⟨d, rfl, q⟩ := q1
  cases r1
  exact wpAny_truthy_bool ⟨H1, I1, q⟩
theorem pt_val {e : Expr} {t : TE} (h : PE X e t) (he : ∀ whole, isTrue e X.env whole = (do let v ← whole; standAt e.pos; holding [v] (truthy v)) := by intro _; rfl) : PT X e (tB t) := by
  intro pins s σ H Q I hw
  refine isTrue_plain (thn (h pins s σ H _ I hw) fun v s1 ⟨x, H1, I1, r1, q1⟩ => ?_) (he _)
  obtain ⟨d, rfl, q⟩ := q1
  cases r1
  exact wpAny_truthy_bool ⟨H1, I1, q⟩

variable {tA tB' : TT} {rest : List Expr}
def tAnd (t u : TT) : TT := fun σ H Q => t σ H fun c H1 => if c = true then u σ H1 Q else Q false H1
def tOr (t u : TT) : TT := fun σ H Q => t σ H fun c H1 => if c = true then Q true H1 else u σ H1 Q
def tNot (t : TT) : TT := fun σ H Q => t σ H fun c H1 => Q (!c) H1
theorem pw_and1 (ha : PT X a tA) : PW X (.BoolOp .And [a] pos) tA := by
  intro wh pins s σ H Q I h
  refine isTrue_and (thn (ha pins s σ H Q I h) fun c s1 e => ?_)
  cases c with
  | true => exact isTrue_and_nil e
  | false => exact e
theorem pw_or1 (ha : PT X a tA) : PW X (.BoolOp .Or [a] pos) tA := by
  intro wh pins s σ H Q I h
  refine isTrue_or (thn (ha pins s σ H Q I h) fun c s1 e => ?_)
  cases c with
  | false => exact isTrue_or_nil e
  | true => exact e
theorem pw_and (ha : PT X a tA) (hb : PW X (.BoolOp .And (b :: rest) pos) tB') : PW X (.BoolOp .And (a :: b :: rest) pos) (tAnd tA tB') := by
  intro wh pins s σ H Q I h
  refine isTrue_and (thn (ha pins s σ H _ I h) fun c s1 ⟨H1, I1, q1⟩ => ?_)
  cases c with
  | true => exact hb wh pins s1 σ H1 Q I1 q1
  | false => exact ⟨H1, I1, q1⟩
theorem pw_or (ha : PT X a tA) (hb : PW X (.BoolOp .Or (b :: rest) pos) tB') : PW X (.BoolOp .Or (a :: b :: rest) pos) (tOr tA tB') := by
  intro wh pins s σ H Q I h
  refine isTrue_or (thn (ha pins s σ H _ I h) fun c s1 ⟨H1, I1, q1⟩ => ?_)
  cases c with
  | true => exact ⟨H1, I1, q1⟩
  | false => exact hb wh pins s1 σ H1 Q I1 q1
theorem pt_not (ha : PT X a tA) : PT X (.UnaryOp .Not a pos) (tNot tA) := by
  intro pins s σ H Q I h
  exact isTrue_not (ha pins s σ H (fun c H1 => Q (!c) H1) I h)
def tAndV (ta tb : TE) : TE := fun σ H Q => ta σ H fun x H1 => ∃ c, x = .bl c ∧ if c = true then tb σ H1 Q else Q (.bl false) H1
def tNotV (ta : TE) : TE := fun σ H Q => ta σ H fun x H1 => ∃ c, x = .bl c ∧ Q (.bl (!c)) H1
theorem pe_one {op} {t : TE} (h : PE X a t) : PE X (.BoolOp op [a] pos) t := fun pins s σ H Q I hw => BoolOp_one (h pins s σ H Q I hw)
theorem pe_and (ha : PE X a ta) (hb : PE X (.BoolOp .And (b :: rest) pos) tb) : PE X (.BoolOp .And (a :: b :: rest) pos) (tAndV ta tb) := by
  intro pins s σ H Q I h
  refine BoolOp_and (thn (ha pins s σ H _ I h) fun v s1 ⟨x, H1, I1, r1, q1⟩ => ?_)
  obtain ⟨c, rfl, q1⟩ := q1
  cases r1
  refine wpAny_truthy_bool ?_
  cases c with
  | true => exact hb pins s1 σ H1 Q I1 q1
  | false => exact ⟨.bl false, H1, I1, rfl, q1⟩
theorem pe_not (ha : PE X a ta) : PE X (.UnaryOp .Not a pos) (tNotV ta) := by
  intro pins s σ H Q I h
  refine UnaryOp_ (thn (ha pins s σ H _ I h) fun v s1 ⟨x, H1, I1, r1, q1⟩ => ?_)
  obtain ⟨c, rfl, q1⟩ := q1
  cases r1
  exact not_of (wpAny_truthy_bool ⟨.bl (!c), H1, I1, rfl, q1⟩)
end
end L2

namespace L2
open PySem PySem.Spec PyProof.Rows

def SqL (K : PySem.W.Frag) (H : Hp) (a : Addr) (xs : List V) : Prop :=
  Rd H a (.lst xs) ∨
    ∃ (o : Obj) (its : Array Value) (n : Nat), K.lookup a = some o ∧ o.cls = .type "list" ∧ o.dict = none ∧ o.data = .seq its n ∧ its.size ≤ sizeLine ∧ Vals xs its.toList
def SqT (K : PySem.W.Frag) (H : Hp) (a : Addr) (xs : List V) : Prop :=
  Rd H a (.tup xs) ∨
    ∃ (o : Obj) (its : Array Value) (n : Nat), K.lookup a = some o ∧ o.cls = .type "tuple" ∧ o.data = .seq its n ∧ its.size ≤ sizeLine ∧ Vals xs its.toList
def absV : Value → Option V
  | .none => some .non
  | .bool b => some (.bl b)
  | .int i _ => some (.int i)
  | .str x _ => some (.str x)
  | .bytes b _ => some (.byt b)
  | .float b _ => some (.flt b)
  | .ref a => some (.ref a)
  | .type n => some (.ty n)
  | _ => none
theorem RelV.abs {x : V} {u : Value} (r : RelV x u) : absV u = some x := by
  cases x with
  | non => cases r; rfl
  | bl _ => cases r; rfl
  | int _ => obtain ⟨t, rfl⟩ := r; rfl
  | str _ => obtain ⟨t, rfl⟩ := r; rfl
  | byt _ => obtain ⟨t, rfl⟩ := r; rfl
  | flt _ => obtain ⟨t, rfl⟩ := r; rfl
  | ref _ => cases r; rfl
  | ty _ => cases r; rfl
theorem RelV.inj {x y : V} {u : Value} (r : RelV x u) (q : RelV y u) : x = y := Option.some.inj (r.abs.symm.trans q.abs)
theorem Vals.inj : ∀ {xs ys : List V} {us : List Value}, Vals xs us → Vals ys us → xs = ys
  | _, _, _, .nil, .nil => rfl
  | _, _, _, .cons r t, .cons r' t' => by rw [r.inj r', Vals.inj t t']
section
variable {X : Cx} {pins : List (Addr × Obj)} {σ : St} {H : Hp} {s : Shared} {a : Addr} {xs ys : List V}
theorem SqL.of {K : PySem.W.Frag} (h : H a = some (.lst xs)) : SqL K H a xs := .inl (.inl h)
theorem SqT.of {K : PySem.W.Frag} (h : H a = some (.tup xs)) : SqT K H a xs := .inl (.inl h)
theorem Inv.list (I : Inv X pins σ H s) (h : SqL X.K H a xs) : ∃ its : List Value, Vals xs its ∧ PlainL s.heap a its.toArray ∧ xs.length ≤ sizeLine := by
  rcases h with h | ⟨o, its, n, hk, hc, hd, hs, hz, r⟩
  · obtain ⟨z, its, n, r, e⟩ := h.ok I.hok
    exact ⟨its, r, ⟨_, n, e, rfl, rfl, rfl⟩, z⟩
  · refine ⟨its.toList, r, ⟨o, n, I.kIn a o hk, hc, hd, by simpa using hs⟩, ?_⟩
    have e := r.length
    simp only [Array.length_toList] at e
    omega
theorem Inv.tuple (I : Inv X pins σ H s) (h : SqT X.K H a xs) : ∃ its : List Value, Vals xs its ∧ IsTup s.heap a its.toArray ∧ xs.length ≤ sizeLine := by
  rcases h with h | ⟨o, its, n, hk, hc, hs, hz, r⟩
  · obtain ⟨z, its, r, p⟩ := h.ok I.hok
    exact ⟨its, r, p, z⟩
  · refine ⟨its.toList, r, ⟨o, I.kIn a o hk, hc, n, by simpa using hs⟩, ?_⟩
    have e := r.length
    simp only [Array.length_toList] at e
    omega
theorem Inv.list_inj (I : Inv X pins σ H s) (h : SqL X.K H a xs) (h' : SqL X.K H a ys) : xs = ys := by
  obtain ⟨its, r, ⟨o, n, e, _, _, d⟩, _⟩ := I.list h
  obtain ⟨its', r', ⟨o', n', e', _, _, d'⟩, _⟩ := I.list h'
  rw [e] at e'; cases e'
  rw [d] at d'
  injection d' with d1 _
  have : its = its' := by simpa using congrArg Array.toList d1
  subst this
  exact r.inj r'
end

abbrev Cx.wish (X : Cx) (E : Value → Shared → Prop) : Cx := { X with xe := E }
abbrev Cx.nox (X : Cx) : Cx := X.wish fun _ _ => False
theorem Cx.Ok.wish {X : Cx} (ok : X.Ok) (E : Value → Shared → Prop) : (X.wish E).Ok :=
  ⟨ok.mod, ok.kind, ok.glob, ok.blt, ok.above, ok.inj, ok.has, ok.cab, ok.hd, ok.frames, ok.stk, ok.exf, ok.bs, ok.bsz, ok.noex, ok.exfs, ok.funs, ok.frf⟩
theorem Cx.Ok.unwish {X : Cx} {E : Value → Shared → Prop} (ok : (X.wish E).Ok) : X.Ok :=
  ⟨ok.mod, ok.kind, ok.glob, ok.blt, ok.above, ok.inj, ok.has, ok.cab, ok.hd, ok.frames, ok.stk, ok.exf, ok.bs, ok.bsz, ok.noex, ok.exfs, ok.funs, ok.frf⟩
section
variable {X : Cx} {pins : List (Addr × Obj)} {σ : St} {H : Hp} {s : Shared} {E : Value → Shared → Prop}
theorem Inv.wish (I : Inv X pins σ H s) (E : Value → Shared → Prop) : Inv (X.wish E) pins σ H s := ⟨I.ok.wish E, I.os, I.bare, I.base, I.loc, I.cell, I.free, I.freeC, I.pin, I.hok, I.len⟩
theorem Inv.unwish (I : Inv (X.wish E) pins σ H s) : Inv X pins σ H s := ⟨I.ok.unwish, I.os, I.bare, I.base, I.loc, I.cell, I.free, I.freeC, I.pin, I.hok, I.len⟩
theorem SP.unwish {D : Ends} {f : Flow} {s' : Shared} (h : SP (X.wish E) pins D f s') : SP X pins D f s' := by
  cases f with
  | next => obtain ⟨σ', H', I, q⟩ := h; exact ⟨σ', H', I.unwish, q⟩
  | brk => obtain ⟨σ', H', I, q⟩ := h; exact ⟨σ', H', I.unwish, q⟩
  | cont => obtain ⟨σ', H', I, q⟩ := h; exact ⟨σ', H', I.unwish, q⟩
  | ret u => obtain ⟨v, σ', H', I, r, q⟩ := h; exact ⟨v, σ', H', I.unwish, r, q⟩
theorem PSs.nox {st : List Stmt} {t : TS} (h : PSs X.nox st t) : PSs X st t := fun pins s σ H D I hw =>
  wpAny_mono (h pins s σ H D (I.wish _) hw) (fun _ _ q => q.unwish) fun _ _ z => False.elim z
end

section
variable {X : Cx} {st : Stmt} {rest : List Stmt} {t u : TS} {e : Expr} {te : TE} {pos : Pos}
def tNext : TS := fun D σ H => D.nx σ H
def tSeq (t u : TS) : TS := fun D σ H => t { D with nx := u D } σ H
theorem pss_nil : PSs X [] tNext := fun _ _ σ H _ I h => wpAny_execs_nil ⟨σ, H, I, h⟩
theorem pss_cons (h1 : PS X st t) (h2 : PSs X rest u) : PSs X (st :: rest) (tSeq t u) := by
  intro pins s σ H D I h
  refine wpAny_execs_cons (thn (h1 pins s σ H { D with nx := u D } I h) fun f s1 q => ?_)
  cases f with
  | next =>
    obtain ⟨σ', H', I', q⟩ := q
    exact h2 pins s1 σ' H' D I' q
  | ret v => exact q
  | brk => exact q
  | cont => exact q
theorem pss_one (h1 : PS X st t) : PSs X [st] t := by
  intro pins s σ H D I h
  refine wpAny_execs_cons (thn (h1 pins s σ H D I h) fun f s1 q => ?_)
  cases f with
  | next => exact wpAny_execs_nil q
  | ret v => exact q
  | brk => exact q
  | cont => exact q
theorem Inv.quiet {pins : List (Addr × Obj)} {σ : St} {H : Hp} {s : Shared} (I : Inv X pins σ H s) : interactive X.env = false := by simp [interactive, I.ok.kind]
def tDrop (te : TE) : TS := fun D σ H => te σ H fun _ H1 => D.nx σ H1
theorem ps_expr (he : PE X e te) (hs : swapsWith e none pos.line X.env = pure false := by rfl) : PS X (.Expr e pos) (tDrop te) := by
  intro pins s σ H D I h
  exact wpAny_Expr_any (thn (he pins s σ H _ I h) fun v s1 ⟨x, H1, I1, r1, q1⟩ => ⟨σ, H1, I1, q1⟩) I.quiet hs
def tRet (te : TE) : TS := fun D σ H => te σ H D.rt
theorem ps_ret (he : PE X e te) : PS X (.Return (some e) pos) (tRet te) := by
  intro pins s σ H D I h
  exact wpAny_Return_some (thn (he pins s σ H _ I h) fun v s1 ⟨x, H1, I1, r1, q1⟩ => ⟨x, σ, H1, I1, r1, q1⟩)
def tIfS (c : TT) (t u : TS) : TS := fun D σ H => c σ H fun b H1 => if b = true then t D σ H1 else u D σ H1
theorem ps_if {c : Expr} {a b : List Stmt} {tc : TT} (hc : PT X c tc) (ha : PSs X a t) (hb : PSs X b u) : PS X (.If c a b pos) (tIfS tc t u) := by
  intro pins s σ H D I h
  refine wpAny_If (thn (hc pins s σ H _ I h) fun d s1 ⟨H1, I1, q1⟩ => ?_)
  cases d with
  | true => exact ha pins s1 σ H1 D I1 q1
  | false => exact hb pins s1 σ H1 D I1 q1
end

abbrev TG := V → St → Hp → (St → Hp → Prop) → Prop
def PG (X : Cx) (target : Expr) (t : TG) : Prop :=
  ∀ (pins : List (Addr × Obj)) (s : Shared) (σ : St) (H : Hp) (v : V) (u : Value) (Q : St → Hp → Prop), Inv X pins σ H s → RelV v u → t v σ H Q →
    wpAny (model X.prog X.w) X.A (assign target X.env u) (fun _ s' => ∃ σ' H', Inv X pins σ' H' s' ∧ Q σ' H') X.xe s
section
variable {X : Cx} {pos : Pos}
def gName (i : Nat) : TG := fun v σ H Q => Q (σ.set i (some v)) H
theorem pg_name {i : Nat} {x : Str} (hN : X.N.Nodup) (hi : X.N[i]? = some x) (hx : Loc X.env.scope x) (hf : X.fn x = true ∨ X.env.scope.names.lookup x = some .local := by first | exact .inl rfl | exact .inr rfl | assumption) : PG X (.Name x pos) (gName i) := by
  intro pins s σ H v u Q I r h
  exact wpAny_assign_Name (store_ok I hN hi hx r (fun s' I' => ⟨_, H, I', h⟩) hf)
def tAsg (te : TE) (g : TG) : TS := fun D σ H => te σ H fun x H1 => g x σ H1 D.nx
theorem ps_set {i : Nat} {x : Str} {e : Expr} {te : TE} {pos' : Pos} (hN : X.N.Nodup) (hi : X.N[i]? = some x) (hx : Loc X.env.scope x) (he : PE X e te) (hs : swapsWith e (some (.Name x pos')) pos.line X.env = pure false := by rfl) (hf : X.fn x = true ∨ X.env.scope.names.lookup x = some .local := by first | exact .inl rfl | exact .inr rfl | assumption) :
    PS X (.Assign [.Name x pos'] e pos) (tAsg te (gName i)) := by
  intro pins s σ H D I h
  refine wpAny_Assign_Name (thn (he pins s σ H _ I h) fun v s1 ⟨y, H1, I1, r1, q1⟩ => ?_) hs
  exact store_ok I1 hN hi hx r1 (fun s2 I2 => ⟨_, H1, I2, q1⟩) hf
end

section
variable {X : Cx} {pos : Pos}
end

structure It where
  go : Nat → Hp → Prop
  yld : Nat → Hp → V → Hp → Prop
  stop : Nat → Hp → Prop
def FpOk (X : Cx) (pins : List (Addr × Obj)) (H : Hp) (b : Addr) : Prop :=
  H b = none ∧ b ≠ X.env.locals ∧ b ∉ X.fs ∧ (b ∈ X.ex ∨ X.s₀.heap.objs.size ≤ b) ∧ (∀ x c, X.env.cells.lookup x = some c → c ≠ b) ∧ ∀ p ∈ X.pn ++ pins, p.1 ≠ b
theorem Inv.fpOk {X : Cx} {pins : List (Addr × Obj)} {σ : St} {H H' : Hp} {s : Shared} {b : Addr} (I : Inv X pins σ H s) (hb : s.heap.objs.size ≤ b) (hn : H' b = none) : FpOk X pins H' b := by
  refine ⟨hn, Nat.ne_of_gt (Nat.lt_of_lt_of_le I.lt hb), I.nofs hb, .inr (Nat.le_trans I.sz hb), fun x c e z => ?_, fun p hp z => ?_⟩
  · obtain ⟨v, q⟩ := I.cell x c e
    exact absurd (Nat.lt_of_lt_of_le q.lt (by rw [z]; exact hb)) (Nat.lt_irrefl _)
  · exact absurd (Nat.lt_of_lt_of_le (Heap.lt_size (I.pin p hp).1) (by rw [z]; exact hb)) (Nat.lt_irrefl _)
structure Turn (P : Program) (w : World) (K : PySem.W.Frag) (tg : Expr) (J : It) (fp : List Addr) (it : Addr) (tn : Nat → Heap → Prop) : Prop where
  mem : it ∈ fp
  obj : ∀ i h, tn i h → ∀ b ∈ fp, ∃ o, h.get? b = some o ∧ ∀ v, o.data ≠ .cell v
  keep : ∀ i h h', tn i h → (∀ b ∈ fp, ∀ o, h.get? b = some o → h'.get? b = some o) → tn i h'
  item : ∀ (X : Cx), X.prog = P → X.w = w → X.K = K → X.calm = true → ∀ (i : Nat) (pins : List (Addr × Obj)) (s : Shared) (σ : St) (H : Hp) (E : Value → Shared → Prop), Inv X pins σ H s → (∀ b ∈ fp, FpOk X pins H b) → tn i s.heap → J.go i H →
    wpAny (model P w) X.A (pyNext (.ref it)) (fun r s1 => ∃ u, r = some u ∧
      wpAny (model P w) X.A (letOwnedTupleGo tg (.ref it) u) (fun _ s2 => ∃ x H', Inv X pins σ H' s2 ∧ RelV x u ∧ J.yld i H x H' ∧ tn (i + 1) s2.heap ∧ ∀ b ∈ fp, H' b = none) E s1) E s
  done : ∀ (X : Cx), X.prog = P → X.w = w → X.K = K → X.calm = true → ∀ (i : Nat) (pins : List (Addr × Obj)) (s : Shared) (σ : St) (H : Hp) (E : Value → Shared → Prop), Inv X pins σ H s → (∀ b ∈ fp, FpOk X pins H b) → tn i s.heap → J.stop i H →
    wpAny (model P w) X.A (pyNext (.ref it)) (fun r s1 => r = none ∧ Inv X pins σ H s1) E s
  self : ∀ (A : Around) (i : Nat) (s : Shared) (Q : Value → Shared → Prop) (E : Value → Shared → Prop), tn i s.heap → Q (.ref it) s → wpAny (model P w) A (pyIter (.ref it)) Q E s
abbrev TI := St → Hp → (It → Hp → Prop) → Prop
def PIE (X : Cx) (pins : List (Addr × Obj)) (σ : St) (tg : Expr) (R : It → Hp → Prop) (itv : Value) (s2 : Shared) : Prop :=
  ∃ (it : Addr) (fp : List Addr) (tn : Nat → Heap → Prop) (J : It) (H' : Hp), itv = .ref it ∧ Inv X pins σ H' s2 ∧ Turn X.prog X.w X.K tg J fp it tn ∧ tn 0 s2.heap ∧ (∀ b ∈ fp, FpOk X pins H' b) ∧ R J H'
def PI (X : Cx) (tg iter : Expr) (wi : TI) : Prop :=
  ∀ (pins : List (Addr × Obj)) (s : Shared) (σ : St) (H : Hp) (R : It → Hp → Prop), Inv X pins σ H s → wi σ H R →
    wpAny (model X.prog X.w) X.A (eval iter X.env) (fun v s1 => wpAny (model X.prog X.w) X.A (pyIter v) (PIE X pins σ tg R) X.xe s1) X.xe s

theorem go_of {M : Model} {A : Around} {E : Value → Shared → Prop} {s : Shared} {tg : Expr} {it : Addr} {u : Value} {o : Obj} {n : String} {vs : Array Value} {Q : Unit → Shared → Prop} (ho : s.heap.get? it = some o) (hc : o.cls = .type n) (hd : o.data = .fields vs)
    (hn : ["enumerate", "zip", "dict_itemiterator", "dict_reverseitemiterator", "odict_iterator", "itertools.zip_longest", "itertools.pairwise"].contains n = false) (hQ : Q () s) : wpAny M A (letOwnedTupleGo tg (.ref it) u) Q E s := by
  unfold letOwnedTupleGo
  cases tg <;> first
    | exact wpAny_pure hQ
    | (cases u <;> first
        | exact wpAny_pure hQ
        | (refine wpAny_bind (wpAny_load ho ?_)
           rw [hc, hd]
           show wpAny M A (if (["enumerate", "zip", "dict_itemiterator", "dict_reverseitemiterator", "odict_iterator", "itertools.zip_longest", "itertools.pairwise"].contains n && vs[0]? == some (rawInt _)) = true then _ else _) Q E s
           rw [if_neg (by intro h; rw [hn, Bool.false_and] at h; cases h)]
           exact wpAny_pure hQ))

def Itl (K : PySem.W.Frag) (a : Addr) : It :=
  ⟨fun i H => ∃ xs x, SqL K H a xs ∧ xs[i]? = some x, fun i H x H' => H' = H ∧ ∀ xs, SqL K H a xs → xs[i]? = some x, fun i H => ∃ xs, SqL K H a xs ∧ xs.length ≤ i⟩
def Itr (lo : Int) (n : Nat) : It := ⟨fun i _ => i < n, fun i H x H' => H' = H ∧ x = .int (lo + i), fun i _ => n ≤ i⟩
theorem turn_list {P : Program} {w : World} {K : PySem.W.Frag} {tg : Expr} (a it : Addr) : Turn P w K tg (Itl K a) [it] it (fun i h => h.IsListIter it a i) where
  mem := by simp
  obj := fun i h st b hb => by
    have e : b = it := by simpa using hb
    subst e
    obtain ⟨o, e, c, d⟩ := st
    exact ⟨o, e, fun v z => by rw [d] at z; cases z⟩
  keep := fun i h h' st k => st.at fun o e => k it (by simp) o e
  item := by
    intro X hP hw hK hc i pins s σ H E I hf st hg
    subst hP hw hK
    obtain ⟨xs, x, hq, hx⟩ := hg
    obtain ⟨its, rv, p, hz⟩ := I.list hq
    obtain ⟨u, hu, ru⟩ := rv.get hx
    obtain ⟨f0, f1, f2, f3, f4, f5⟩ := hf it (by simp)
    refine wpAny_pyNext_list_item st p.isList (x := u) (by simpa using hu) fun h' st' sb => ?_
    have I1 : Inv X pins σ H { s with heap := h' } := I.turned (t' := s.toks) (fun b o hb e => (sb.2 b hb).trans e) f0 f1 f3 f4 f5
    obtain ⟨o, e, c, d⟩ := id st'
    exact ⟨u, rfl, go_of (s := { s with heap := h' }) e c d (by decide) ⟨x, H, I1, ru, ⟨rfl, fun ys hy => by rw [I.list_inj hy hq]; exact hx⟩, st', fun b hb => (hf b hb).1⟩⟩
  done := by
    intro X hP hw hK hc i pins s σ H E I hf st hg
    subst hP hw hK
    obtain ⟨xs, hq, hx⟩ := hg
    obtain ⟨its, rv, p, hz⟩ := I.list hq
    obtain ⟨f0, f1, f2, f3, f4, f5⟩ := hf it (by simp)
    have hl := rv.length
    exact wpAny_pyNext_list_end (I.ok.hd hc) st p.isList (by simp; omega) fun h' eb => ⟨rfl, I.turned (t' := s.toks) (fun b o hb e => eb b o hb e) f0 f1 f3 f4 f5⟩
  self := fun _ _ _ _ _ st h => wpAny_pyIter_listiter st h
theorem turn_range {P : Program} {w : World} {K : PySem.W.Frag} {tg : Expr} (it : Addr) (lo : Int) (n : Nat) : Turn P w K tg (Itr lo n) [it] it (fun i h => IsRangeIter h it (lo + (i : Nat) * 1) ((n : Int) - (i : Nat)) 1) where
  mem := by simp
  obj := fun i h st b hb => by
    have e : b = it := by simpa using hb
    subst e
    exact ⟨_, st, fun v z => by
      have z' : Data.fields _ = Data.cell v := z
      cases z'⟩
  keep := fun i h h' st k => k it (by simp) _ st
  item := by
    intro X hP hw hK hc i pins s σ H E I hf st hg
    subst hP hw hK
    obtain ⟨f0, f1, f2, f3, f4, f5⟩ := hf it (by simp)
    have W := Walks.range (prog := X.prog) (w := X.w) (I.ok.hd hc) it lo 1 n
    refine W.item i s _ _ hg st fun v h' tk hv st' kk => ?_
    obtain ⟨t, rfl⟩ := hv
    have I1 : Inv X pins σ H { s with heap := h', toks := tk } := I.turned (fun b o hb e => kk b o (by simpa using hb) e) f0 f1 f3 f4 f5
    refine ⟨_, rfl, go_of (s := { s with heap := h', toks := tk }) (n := "range_iterator") st' rfl rfl (by decide) ⟨.int (lo + i), H, I1, ⟨t, ?_⟩, ⟨rfl, rfl⟩, st', fun b hb => (hf b hb).1⟩⟩
    rw [Int.mul_one]
  done := by
    intro X hP hw hK hc i pins s σ H E I hf st hg
    subst hP hw hK
    obtain ⟨f0, f1, f2, f3, f4, f5⟩ := hf it (by simp)
    exact wpAny_pyNext_range_end (I.ok.hd hc) st (by have : n ≤ i := hg; omega) fun h' eb => ⟨rfl, I.turned (t' := s.toks) (fun b o hb e => eb b o hb e) f0 f1 f3 f4 f5⟩
  self := fun _ _ _ _ _ st h => wpAny_pyIter_rangeiter st h
end L2

namespace L2
open PySem PySem.Spec PyProof.Rows
section
variable {X : Cx} {tg : Expr}
def iList (K : PySem.W.Frag) (tl : TE) : TI := fun σ H R => tl σ H fun x H1 => ∃ a, x = .ref a ∧ (∃ xs, SqL K H1 a xs) ∧ R (Itl K a) H1
theorem pi_list {l : Expr} {tl : TE} (hl : PE X l tl) : PI X tg l (iList X.K tl) := by
  intro pins s σ H R I h
  refine thn (hl pins s σ H _ I h) fun v s1 ⟨x, H1, I1, r1, q1⟩ => ?_
  obtain ⟨a, e, ⟨xs, hq⟩, q⟩ := q1
  subst e
  cases r1
  obtain ⟨its, rv, p, hz⟩ := I1.list hq
  refine wpAny_pyIter_list p.isList ?_
  refine ⟨s1.heap.objs.size, [s1.heap.objs.size], _, _, H1, rfl, I1.kept (t' := s1.toks) fun b o e => Heap.get?_push_of_some _ e, turn_list a _, ⟨_, Heap.get?_push_size _ rfl, rfl, rfl⟩, fun b hb => ?_, q⟩
  have e : b = s1.heap.objs.size := by simpa using hb
  subst e
  exact I1.fpOk (Nat.le_refl _) (I1.hok.fresh (Nat.le_refl _))
theorem range_it {pins : List (Addr × Obj)} {σ : St} {H : Hp} {s : Shared} {R : It → Hp → Prop} {E : Value → Shared → Prop} {lo hi : Int} {t u v : Tok} {tk : Nat} (I : Inv X pins σ H s) (h1 : -(2 ^ 62) ≤ lo) (h2 : lo < 2 ^ 62) (h3 : -(2 ^ 62) ≤ hi) (h4 : hi < 2 ^ 62)
    (q : R (Itr lo (hi - lo).toNat) H) : wpAny (model X.prog X.w) X.A (pyIter (.ref s.heap.objs.size)) (PIE X pins σ tg R) E { s with heap := s.heap.push { cls := .type "range", data := .fields #[.int lo t, .int hi u, .int 1 v] }, toks := tk } := by
  refine wpAny_pyIter_range (IsRange.new ..) (small_one h1 h2 h3 h4) ?_
  have I1 : Inv X pins σ H { s with heap := s.heap.push { cls := .type "range", data := .fields #[.int lo t, .int hi u, .int 1 v] }, toks := tk } := I.kept fun b o e => Heap.get?_push_of_some _ e
  refine ⟨(s.heap.push { cls := .type "range", data := .fields #[.int lo t, .int hi u, .int 1 v] }).objs.size, [(s.heap.push { cls := .type "range", data := .fields #[.int lo t, .int hi u, .int 1 v] }).objs.size], _, _, H, rfl,
    I1.kept (t' := tk) fun b o e => Heap.get?_push_of_some _ e, turn_range _ lo (hi - lo).toNat, ?_, fun b hb => ?_, q⟩
  · have e1 : lo + ((0 : Nat) : Int) * 1 = lo := by simp
    have e2 : (((hi - lo).toNat : Nat) : Int) - ((0 : Nat) : Int) = Builtin.Range.rangeSize lo hi 1 := by rw [rangeSize_one]; split <;> omega
    show IsRangeIter _ _ (lo + ((0 : Nat) : Int) * 1) ((((hi - lo).toNat : Nat) : Int) - ((0 : Nat) : Int)) 1
    rw [e1, e2]
    exact Heap.get?_push_size _ rfl
  · have e : b = (s.heap.push { cls := .type "range", data := .fields #[.int lo t, .int hi u, .int 1 v] }).objs.size := by simpa using hb
    subst e
    exact I1.fpOk (Nat.le_refl _) (I1.hok.fresh (Nat.le_refl _))
def iRng1 (ta : TA) : TI := fun σ H R => ta σ H fun vs H1 => ∃ j : Int, vs = [.int j] ∧ -(2 ^ 62) ≤ j ∧ j < 2 ^ 62 ∧ R (Itr 0 j.toNat) H1
theorem pi_range1 {a : Expr} {ta : TA} {p pos : Pos} (hg : Gl X "range") (hm : X.mg "range" = none) (ha : PA X [a] ta) (hs : starEach [a] X.env = [(false, eval a X.env)] := by rfl) : PI X tg (.Call (.Name "range" p) [a] [] pos) (iRng1 ta) := by
  intro pins s σ H R I h
  refine Call_ (ld_blt I hg hm boot_range (PyProof.Rows.callWith_type1 (thn (ha pos pins s σ H _ I h) fun us s1 ⟨vs, H1, I1, r1, q1⟩ => ?_) hs rfl))
  obtain ⟨j, e, q1, q2, q⟩ := q1
  subst e
  cases r1 with
  | cons r rr =>
    cases rr
    obtain ⟨t, rfl⟩ := r
    exact call_range_1 (range_it I1 (by omega) (by omega) q1 q2 (by simpa using q))

def tFor (wi : TI) (g : TG) (tb : TS) : TS := fun D σ H => wi σ H fun J H1 => ∃ W : Nat → Nat → St → Hp → Prop, (∃ m, W 0 m σ H1) ∧ ∀ i m σ H, W i m σ H →
  (J.stop i H ∧ D.nx σ H) ∨ (J.go i H ∧ ∃ N : St → Hp → Prop, (∀ σ' H', N σ' H' → ∃ m', m' < m ∧ W (i + 1) m' σ' H') ∧ ∀ x H', J.yld i H x H' → g x σ H' fun σ2 H2 => tb { D with nx := N, ct := N, bk := D.nx } σ2 H2)
def pinsAt (fp : List Addr) (h : Heap) : List (Addr × Obj) := fp.filterMap fun b => (h.get? b).map fun o => (b, o)
theorem mem_pinsAt {fp : List Addr} {h : Heap} {b : Addr} {o : Obj} (hb : b ∈ fp) (e : h.get? b = some o) : (b, o) ∈ pinsAt fp h := List.mem_filterMap.mpr ⟨b, hb, by rw [e]; rfl⟩
theorem of_pinsAt {fp : List Addr} {h : Heap} {p : Addr × Obj} (hp : p ∈ pinsAt fp h) : p.1 ∈ fp ∧ h.get? p.1 = some p.2 := by
  obtain ⟨b, hb, e⟩ := List.mem_filterMap.mp hp
  cases q : h.get? b with
  | none => rw [q] at e; cases e
  | some o =>
    rw [q] at e
    have e' : (b, o) = p := Option.some.inj e
    subst e'
    exact ⟨hb, q⟩
theorem Inv.pinned {pins : List (Addr × Obj)} {σ : St} {H : Hp} {s : Shared} {fp : List Addr} (I : Inv X pins σ H s) (hf : ∀ b ∈ fp, FpOk X pins H b) (ho : ∀ b ∈ fp, ∃ o, s.heap.get? b = some o ∧ ∀ v, o.data ≠ .cell v) : Inv X (pins ++ pinsAt fp s.heap) σ H s :=
  I.pins_of fun p hp => (List.mem_append.mp hp).elim (fun z => I.pin p (List.mem_append_right _ z)) fun z => by
    obtain ⟨hb, e⟩ := of_pinsAt z
    obtain ⟨f0, f1, f2, _⟩ := hf p.1 hb
    obtain ⟨o, e', d⟩ := ho p.1 hb
    rw [e] at e'; cases e'
    exact ⟨e, f0, f1, f2, d⟩
theorem Inv.unpinned {pins pl : List (Addr × Obj)} {σ : St} {H : Hp} {s : Shared} (I : Inv X (pins ++ pl) σ H s) : Inv X pins σ H s := I.pins_of fun p hp => I.pin p (List.mem_append_right _ (List.mem_append_left _ hp))
theorem ps_for {iter : Expr} {body : List Stmt} {wi : TI} {g : TG} {tb : TS} {pos : Pos} (hp : PassesOwn (model X.prog X.w) X.A X.env X.xe) (hc : X.calm = true) (hi : PI X tg iter wi) (hg : PG X tg g) (hb : PSs X body tb)
    (hs : ∀ x, foldedSetIterable iter X.env x = pure x := by intro _; rfl) : PS X (.For tg iter body [] pos) (tFor wi g tb) := by
  intro pins s σ H D I h
  refine wpAny_For (thn (hi pins s σ H _ I h) fun v s1 h1 => thn h1 fun itv s2 h2 => ?_) hs
  obtain ⟨it, fp, tn, J, H2, e, I2, T, st2, f2, W, ⟨m0, w0⟩, turn⟩ := h2
  subst e
  -- what stays true of the iterator's objects through the loop
  have stat : ∀ {H' : Hp}, (∀ b ∈ fp, H' b = none) → ∀ b ∈ fp, FpOk X pins H' b := fun hn b hb => ⟨hn b hb, (f2 b hb).2⟩
  refine codeAny_forLoop_any (fun n s' => ∃ i σ' H', Inv X pins σ' H' s' ∧ tn i s'.heap ∧ (∀ b ∈ fp, H' b = none) ∧ W i n σ' H') ?_ m0 ⟨0, σ, H2, I2, st2, fun b hb => (f2 b hb).1, w0⟩
  rintro n s3 ⟨i, σ3, H3, I3, st3, fr3, w3⟩
  rcases turn i n σ3 H3 w3 with ⟨stop, qn⟩ | ⟨go, N, hN, step⟩
  · refine wpAny_passesOwn hp (thn (T.done X rfl rfl rfl hc i pins s3 σ3 H3 X.xe I3 (stat fr3) st3 stop) fun r s4 ⟨hr, I4⟩ => ?_)
    subst hr
    exact wpAny_execs_nil ⟨σ3, H3, I4, qn⟩
  · refine wpAny_passesOwn hp (thn (T.item X rfl rfl rfl hc i pins s3 σ3 H3 X.xe I3 (stat fr3) st3 go) fun r s4 ⟨u, hr, h4⟩ => ?_)
    subst hr
    refine wpAny_passesOwn hp (thn h4 fun _ s5 ⟨x, H5, I5, r5, y5, st5, fr5⟩ => ?_)
    have I5' := I5.pinned (stat fr5) (T.obj _ _ st5)
    refine wpAny_passesOwn hp (thn (hg _ s5 σ3 H5 x u _ I5' r5 (step x H5 y5)) fun _ s6 ⟨σ6, H6, I6, q6⟩ => ?_)
    refine wpAny_passesOwn hp (thn (hb _ s6 σ6 H6 _ I6 q6) fun f s7 q7 => ?_)
    have again : ∀ {σ7 : St} {H7 : Hp}, Inv X (pins ++ pinsAt fp s5.heap) σ7 H7 s7 → N σ7 H7 → ∃ m, m < n ∧ ∃ i σ' H', Inv X pins σ' H' s7 ∧ tn i s7.heap ∧ (∀ b ∈ fp, H' b = none) ∧ W i m σ' H' := fun {σ7 H7} I7 n7 => by
      obtain ⟨m', hm, w7⟩ := hN σ7 H7 n7
      refine ⟨m', hm, i + 1, σ7, H7, I7.unpinned, T.keep _ _ _ st5 fun b hb o e => (I7.pin (b, o) (List.mem_append_right _ (List.mem_append_right _ (mem_pinsAt hb e)))).1, fun b hb => ?_, w7⟩
      obtain ⟨o, e, d⟩ := T.obj _ _ st5 b hb
      exact (I7.pin (b, o) (List.mem_append_right _ (List.mem_append_right _ (mem_pinsAt hb e)))).2.1
    cases f with
    | next => obtain ⟨σ7, H7, I7, n7⟩ := q7; exact again I7 n7
    | cont => obtain ⟨σ7, H7, I7, n7⟩ := q7; exact again I7 n7
    | brk => obtain ⟨σ7, H7, I7, q7⟩ := q7; exact ⟨σ7, H7, I7.unpinned, q7⟩
    | ret v => obtain ⟨x7, σ7, H7, I7, r7, q7⟩ := q7; exact ⟨x7, σ7, H7, I7.unpinned, r7, q7⟩
end

theorem for_range {lo : Int} {n : Nat} {g : TG} {tb : TS} {D : Ends} {σ : St} {H : Hp} (Pv : Nat → St → Hp → Prop) (h0 : Pv 0 σ H)
    (hs : ∀ i σ H, i < n → Pv i σ H → g (.int (lo + i)) σ H fun σ2 H2 => tb { D with nx := Pv (i + 1), ct := Pv (i + 1), bk := D.nx } σ2 H2) (hd : ∀ σ H, Pv n σ H → D.nx σ H) :
    ∃ W : Nat → Nat → St → Hp → Prop, (∃ m, W 0 m σ H) ∧ ∀ i m σ H, W i m σ H →
      ((Itr lo n).stop i H ∧ D.nx σ H) ∨ ((Itr lo n).go i H ∧ ∃ N : St → Hp → Prop, (∀ σ' H', N σ' H' → ∃ m', m' < m ∧ W (i + 1) m' σ' H') ∧ ∀ x H', (Itr lo n).yld i H x H' → g x σ H' fun σ2 H2 => tb { D with nx := N, ct := N, bk := D.nx } σ2 H2) := by
  refine ⟨fun i m σ H => m = n - i ∧ i ≤ n ∧ Pv i σ H, ⟨n, by simp, Nat.zero_le _, h0⟩, ?_⟩
  rintro i m σ H ⟨rfl, hi, p⟩
  by_cases hlt : i < n
  · refine .inr ⟨hlt, Pv (i + 1), fun σ' H' p' => ⟨n - (i + 1), by omega, rfl, hlt, p'⟩, fun x H' y => ?_⟩
    obtain ⟨e, y⟩ := y
    subst e y
    exact hs i σ _ hlt p
  · have e : i = n := by omega
    subst e
    exact .inl ⟨Nat.le_refl _, hd σ H p⟩
end L2

namespace L2
open PySem PySem.Spec PyProof.Rows

abbrev R2 := V → V → Hp → VK → Prop
def OpR (X : Cx) (f : Value → Value → Sem Value) (r : R2) : Prop :=
  ∀ (pins : List (Addr × Obj)) (s : Shared) (σ : St) (H : Hp) (x y : V) (v u : Value) (Q : VK), Inv X pins σ H s → RelV x v → RelV y u → r x y H Q →
    wpAny (model X.prog X.w) X.A (f v u) (EP X pins σ Q) X.xe s
def UnR (X : Cx) (f : Value → Sem Value) (r : V → Hp → VK → Prop) : Prop :=
  ∀ (pins : List (Addr × Obj)) (s : Shared) (σ : St) (H : Hp) (x : V) (v : Value) (Q : VK), Inv X pins σ H s → RelV x v → r x H Q →
    wpAny (model X.prog X.w) X.A (f v) (EP X pins σ Q) X.xe s
def CallR (X : Cx) (f : Value) (r : List V → Hp → VK → Prop) : Prop :=
  ∀ (pins : List (Addr × Obj)) (s : Shared) (σ : St) (H : Hp) (xs : List V) (us : List Value) (Q : VK), Inv X pins σ H s → Vals xs us → r xs H Q →
    wpAny (model X.prog X.w) X.A (call f us) (EP X pins σ Q) X.xe s

def tOp (r : R2) (ta tb : TE) : TE := fun σ H Q => ta σ H fun x H1 => tb σ H1 fun y H2 => r x y H2 Q
def tUn (r : V → Hp → VK → Prop) (ta : TE) : TE := fun σ H Q => ta σ H fun x H1 => r x H1 Q
def rI (C : Int → Int → Prop) (g : Int → Int → V) : R2 := fun x y H Q => ∃ i j, x = .int i ∧ y = .int j ∧ C i j ∧ Q (g i j) H
def rI0 (g : Int → Int → V) : R2 := fun x y H Q => ∃ i j, x = .int i ∧ y = .int j ∧ Q (g i j) H
def rU (g : Int → V) : V → Hp → VK → Prop := fun x H Q => ∃ i, x = .int i ∧ Q (g i) H

section
variable {X : Cx} {a b c : Expr} {ta tb tc : TE} {pos : Pos}

theorem binT (ha : PE X a ta) (hb : PE X b tb) {pins : List (Addr × Obj)} {s : Shared} {σ : St} {H : Hp} {R : V → V → Hp → Prop} (I : Inv X pins σ H s)
    (h : ta σ H fun x H1 => tb σ H1 fun y H2 => R x y H2) {Q : Value → Shared → Prop} {f : Value → Value → Sem Value}
    (hf : ∀ v u s2 x y H2, Inv X pins σ H2 s2 → RelV x v → RelV y u → R x y H2 → wpAny (model X.prog X.w) X.A (f v u) Q X.xe s2) :
    wpAny (model X.prog X.w) X.A (eval a X.env) (fun v s₁ => wpAny (model X.prog X.w) X.A (eval b X.env) (fun u s₂ => wpAny (model X.prog X.w) X.A (f v u) Q X.xe s₂) X.xe s₁) X.xe s := by
  refine thn (ha pins s σ H _ I h) fun v s1 ⟨x, H1, I1, r1, q1⟩ => ?_
  refine thn (hb pins s1 σ H1 _ I1 q1) fun u s2 ⟨y, H2, I2, r2, q2⟩ => ?_
  exact hf v u s2 x y H2 I2 r1 r2 q2

theorem pe_op {op : Operator} {r : R2} (ho : OpR X (binaryOp op) r) (ha : PE X a ta) (hb : PE X b tb) : PE X (.BinOp a op b pos) (tOp r ta tb) := by
  intro pins s σ H Q I h
  exact wpAny_BinOp (binT ha hb I h fun v u s2 x y H2 I2 rx ry q => ho pins s2 σ H2 x y v u Q I2 rx ry q)
theorem pe_un {op : UnaryOp} {r : V → Hp → VK → Prop} (ho : UnR X (unaryOp op) r) (ha : PE X a ta) : PE X (.UnaryOp op a pos) (tUn r ta) := by
  intro pins s σ H Q I h
  exact UnaryOp_ (thn (ha pins s σ H _ I h) fun v s1 ⟨x, H1, I1, r1, q1⟩ => ho pins s1 σ H1 x v Q I1 r1 q1)

theorem opI {f : Value → Value → Sem Value} {C : Int → Int → Prop} {g : Int → Int → Int}
    (rule : ∀ (i j : Int) (t u : Tok) (s : Shared) (Q : Value → Shared → Prop) (E : Value → Shared → Prop), C i j → Q (.int (g i j) s.toks) { s with toks := s.toks + 1 } → wpAny (model X.prog X.w) X.A (f (.int i t) (.int j u)) Q E s) :
    OpR X f (rI C fun i j => .int (g i j)) := by
  intro pins s σ H x y v u Q I rx ry h
  obtain ⟨i, j, rfl, rfl, hc, q⟩ := h
  obtain ⟨t, rfl⟩ := rx
  obtain ⟨t', rfl⟩ := ry
  exact rule i j t t' s _ _ hc ⟨.int (g i j), H, I.tok _, ⟨_, rfl⟩, q⟩
theorem opI0 {f : Value → Value → Sem Value} {g : Int → Int → Int}
    (rule : ∀ (i j : Int) (t u : Tok) (s : Shared) (Q : Value → Shared → Prop) (E : Value → Shared → Prop), Q (.int (g i j) s.toks) { s with toks := s.toks + 1 } → wpAny (model X.prog X.w) X.A (f (.int i t) (.int j u)) Q E s) :
    OpR X f (rI0 fun i j => .int (g i j)) := by
  intro pins s σ H x y v u Q I rx ry h
  obtain ⟨i, j, rfl, rfl, q⟩ := h
  obtain ⟨t, rfl⟩ := rx
  obtain ⟨t', rfl⟩ := ry
  exact rule i j t t' s _ _ ⟨.int (g i j), H, I.tok _, ⟨_, rfl⟩, q⟩
theorem opB0 {f : Value → Value → Sem Value} {g : Int → Int → Bool}
    (rule : ∀ (i j : Int) (t u : Tok) (s : Shared) (Q : Value → Shared → Prop) (E : Value → Shared → Prop), Q (.bool (g i j)) s → wpAny (model X.prog X.w) X.A (f (.int i t) (.int j u)) Q E s) :
    OpR X f (rI0 fun i j => .bl (g i j)) := by
  intro pins s σ H x y v u Q I rx ry h
  obtain ⟨i, j, rfl, rfl, q⟩ := h
  obtain ⟨t, rfl⟩ := rx
  obtain ⟨t', rfl⟩ := ry
  exact rule i j t t' s _ _ ⟨.bl (g i j), H, I, rfl, q⟩

def CDiv (i j : Int) : Prop := 0 < j ∧ j < 1073741824

theorem op_add : OpR X (binaryOp .Add) (rI0 fun i j => .int (i + j)) := opI0 fun _ _ _ _ _ _ _ q => add_int q
theorem op_sub : OpR X (binaryOp .Sub) (rI0 fun i j => .int (i - j)) := opI0 fun _ _ _ _ _ _ _ q => sub_int q
theorem op_fdiv : OpR X (binaryOp .FloorDiv) (rI CDiv fun i j => .int (i / j)) := opI fun i j _ _ _ _ _ hc q => by
  have h1 : (0 : Int) < j := hc.1
  have h2 : j < 1073741824 := hc.2
  exact floordiv_int (by omega) (by rw [Int.fdiv_eq_ediv_of_nonneg i (by omega)]; exact q) (.inl (PyProof.noPylong_small (by omega)))
theorem op_mod : OpR X (binaryOp .Mod) (rI (fun _ j => 0 < j) fun i j => .int (i % j)) := opI fun i j _ _ _ _ _ hc q => by
  have h1 : (0 : Int) < j := hc
  exact mod_int' (by omega) (by rw [Int.fmod_eq_emod_of_nonneg i (by omega)]; exact q)


theorem unI {f : Value → Sem Value} {g : Int → Int}
    (rule : ∀ (i : Int) (t : Tok) (s : Shared) (Q : Value → Shared → Prop) (E : Value → Shared → Prop), Q (.int (g i) s.toks) { s with toks := s.toks + 1 } → wpAny (model X.prog X.w) X.A (f (.int i t)) Q E s) :
    UnR X f (rU fun i => .int (g i)) := by
  intro pins s σ H x v Q I rx h
  obtain ⟨i, rfl, q⟩ := h
  obtain ⟨t, rfl⟩ := rx
  exact rule i t s _ _ ⟨.int (g i), H, I.tok _, ⟨_, rfl⟩, q⟩
theorem un_neg : UnR X (unaryOp .USub) (rU fun i => .int (-i)) := unI fun _ _ _ _ _ q => neg_int q

end

def scal : V → V → Bool
  | .non, .non => true | .non, .int _ => true | .int _, .non => true | .non, .bl _ => true | .bl _, .non => true | .non, .str _ => true | .str _, .non => true
  | .int _, .int _ => true | .bl _, .bl _ => true | .str _, .str _ => true | .byt _, .byt _ => true
  | .int _, .str _ => true | .str _, .int _ => true | .bl _, .str _ => true | .str _, .bl _ => true
  | _, _ => false
def rEq : R2 := fun x y H Q => scal x y = true ∧ Q (.bl (decide (x = y))) H
def rNe : R2 := fun x y H Q => scal x y = true ∧ Q (.bl (!decide (x = y))) H

theorem dec_int {i j : Int} : decide (V.int i = V.int j) = (i == j) := by
  rw [Bool.eq_iff_iff]
  simp
theorem dec_bl {i j : Bool} : decide (V.bl i = V.bl j) = (i == j) := by
  rw [Bool.eq_iff_iff]
  simp
theorem dec_str {i j : Str} : decide (V.str i = V.str j) = (i == j) := by
  rw [Bool.eq_iff_iff]
  simp
theorem dec_byt {i j : Array UInt8} : decide (V.byt i = V.byt j) = (i.toList == j.toList) := by
  rw [Bool.eq_iff_iff]
  cases i
  cases j
  simp

section
variable {X : Cx} {a b c : Expr} {ta tb tc : TE} {pos : Pos}
theorem fin_bl {pins : List (Addr × Obj)} {σ : St} {H : Hp} {s : Shared} {Q : VK} {k k' : Bool} (I : Inv X pins σ H s) (q : Q (.bl k) H) (e : k = k') : EP X pins σ Q (.bool k') s := by
  subst e
  exact ⟨.bl k, H, I, rfl, q⟩
theorem op_eq : OpR X (compareOp .Eq) rEq := by
  intro pins s σ H x y v u Q I rx ry h
  obtain ⟨hs, q⟩ := h
  cases x with
  | non =>
    cases rx
    cases y with
    | non => cases ry; exact PySem.EqNone.eq_none_none (fin_bl I q (by simp))
    | bl j => cases ry; exact PySem.EqNone.eq_none_bool (fin_bl I q (by simp))
    | int j => obtain ⟨t', rfl⟩ := ry; exact PySem.EqNone.eq_none_int (fin_bl I q (by simp))
    | str j => obtain ⟨t', rfl⟩ := ry; exact PySem.EqNone.eq_none_str (fin_bl I q (by simp))
    | _ => exact absurd (show false = true from hs) Bool.false_ne_true
  | bl i =>
    cases rx
    cases y with
    | non => cases ry; exact PySem.EqNone.eq_bool_none (fin_bl I q (by simp))
    | bl j => cases ry; exact eq_bool (fin_bl I q dec_bl)
    | str j => obtain ⟨t', rfl⟩ := ry; exact PySem.EqMixed.eq_bool_str (fin_bl I q (by simp))
    | _ => exact absurd (show false = true from hs) Bool.false_ne_true
  | int i =>
    obtain ⟨t, rfl⟩ := rx
    cases y with
    | non => cases ry; exact PySem.EqNone.eq_int_none (fin_bl I q (by simp))
    | int j => obtain ⟨t', rfl⟩ := ry; exact eq_int (fin_bl I q dec_int)
    | str j => obtain ⟨t', rfl⟩ := ry; exact PySem.EqMixed.eq_int_str (fin_bl I q (by simp))
    | _ => exact absurd (show false = true from hs) Bool.false_ne_true
  | str i =>
    obtain ⟨t, rfl⟩ := rx
    cases y with
    | non => cases ry; exact PySem.EqNone.eq_str_none (fin_bl I q (by simp))
    | bl j => cases ry; exact PySem.EqMixed.eq_str_bool (fin_bl I q (by simp))
    | int j => obtain ⟨t', rfl⟩ := ry; exact PySem.EqMixed.eq_str_int (fin_bl I q (by simp))
    | str j => obtain ⟨t', rfl⟩ := ry; exact eq_str (fin_bl I q dec_str)
    | _ => exact absurd (show false = true from hs) Bool.false_ne_true
  | byt i =>
    obtain ⟨t, rfl⟩ := rx
    cases y with
    | byt j => obtain ⟨t', rfl⟩ := ry; exact PySem.W.eq_bytes (fin_bl I q dec_byt)
    | _ => exact absurd (show false = true from hs) Bool.false_ne_true
  | _ => cases y <;> exact absurd (show false = true from hs) Bool.false_ne_true
theorem op_ne : OpR X (compareOp .NotEq) rNe := by
  intro pins s σ H x y v u Q I rx ry h
  obtain ⟨hs, q⟩ := h
  cases x with
  | non =>
    cases rx
    cases y with
    | non => cases ry; exact PySem.EqNone.ne_none_none (fin_bl I q (by simp))
    | bl j => cases ry; exact PySem.EqNone.ne_none_bool (fin_bl I q (by simp))
    | int j => obtain ⟨t', rfl⟩ := ry; exact PySem.EqNone.ne_none_int (fin_bl I q (by simp))
    | str j => obtain ⟨t', rfl⟩ := ry; exact PySem.EqNone.ne_none_str (fin_bl I q (by simp))
    | _ => exact absurd (show false = true from hs) Bool.false_ne_true
  | bl i =>
    cases rx
    cases y with
    | non => cases ry; exact PySem.EqNone.ne_bool_none (fin_bl I q (by simp))
    | bl j => cases ry; exact ne_bool (fin_bl I q (congrArg not dec_bl))
    | str j => obtain ⟨t', rfl⟩ := ry; exact PySem.EqMixed.ne_bool_str (fin_bl I q (by simp))
    | _ => exact absurd (show false = true from hs) Bool.false_ne_true
  | int i =>
    obtain ⟨t, rfl⟩ := rx
    cases y with
    | non => cases ry; exact PySem.EqNone.ne_int_none (fin_bl I q (by simp))
    | int j => obtain ⟨t', rfl⟩ := ry; exact ne_int (fin_bl I q (congrArg not dec_int))
    | str j => obtain ⟨t', rfl⟩ := ry; exact PySem.EqMixed.ne_int_str (fin_bl I q (by simp))
    | _ => exact absurd (show false = true from hs) Bool.false_ne_true
  | str i =>
    obtain ⟨t, rfl⟩ := rx
    cases y with
    | non => cases ry; exact PySem.EqNone.ne_str_none (fin_bl I q (by simp))
    | bl j => cases ry; exact PySem.EqMixed.ne_str_bool (fin_bl I q (by simp))
    | int j => obtain ⟨t', rfl⟩ := ry; exact PySem.EqMixed.ne_str_int (fin_bl I q (by simp))
    | str j => obtain ⟨t', rfl⟩ := ry; exact ne_str (fin_bl I q (congrArg not dec_str))
    | _ => exact absurd (show false = true from hs) Bool.false_ne_true
  | byt i =>
    obtain ⟨t, rfl⟩ := rx
    cases y with
    | byt j => obtain ⟨t', rfl⟩ := ry; exact PySem.W.ne_bytes (fin_bl I q (congrArg not dec_byt))
    | _ => exact absurd (show false = true from hs) Bool.false_ne_true
  | _ => cases y <;> exact absurd (show false = true from hs) Bool.false_ne_true

theorem op_lt : OpR X (compareOp .Lt) (rI0 fun i j => .bl (decide (i < j))) := opB0 fun _ _ _ _ _ _ _ q => lt_int q
theorem op_gt : OpR X (compareOp .Gt) (rI0 fun i j => .bl (decide (j < i))) := opB0 fun _ _ _ _ _ _ _ q => gt_int q
theorem op_ge : OpR X (compareOp .GtE) (rI0 fun i j => .bl (decide (j ≤ i))) := opB0 fun _ _ _ _ _ _ _ q => ge_int q
theorem op_in_str : OpR X (compareOp .In) (fun x y H Q => ∃ i j, x = .str i ∧ y = .str j ∧ Q (.bl (!(Builtin.Str.occurrences j i 0 j.length 1).isEmpty)) H) := by
  intro pins s σ H x y v u Q I rx ry h
  obtain ⟨i, j, rfl, rfl, q⟩ := h
  obtain ⟨t, rfl⟩ := rx
  obtain ⟨t', rfl⟩ := ry
  exact in_str (fin_bl I q rfl)

theorem op_isN : OpR X (compareOp .Is) (fun x y H Q => y = .non ∧ Q (.bl (decide (x = .non))) H) := by
  intro pins s σ H x y v u Q I rx ry h
  obtain ⟨rfl, q⟩ := h
  cases ry
  refine is_none_gen (fin_bl I q ?_)
  cases x <;> first
    | (cases rx; rfl)
    | (obtain ⟨t, rfl⟩ := rx; rfl)

theorem op_notin_str : OpR X (compareOp .NotIn) (fun x y H Q => ∃ i j, x = .str i ∧ y = .str j ∧ Q (.bl (!(!(Builtin.Str.occurrences j i 0 j.length 1).isEmpty))) H) := by
  intro pins s σ H x y v u Q I rx ry h
  obtain ⟨i, j, rfl, rfl, q⟩ := h
  obtain ⟨t, rfl⟩ := rx
  obtain ⟨t', rfl⟩ := ry
  exact notIn_str (fin_bl I q rfl)


theorem nomark (b : Expr) {op : CmpOp} (h : op ≠ .In := by decide) (h2 : op ≠ .NotIn := by decide) : behindInMarks op b = false := by
  have e1 : (op == CmpOp.In) = false := by cases op <;> first | rfl | exact absurd rfl h
  have e2 : (op == CmpOp.NotIn) = false := by cases op <;> first | rfl | exact absurd rfl h2
  cases b <;> simp [behindInMarks, e1, e2]
theorem pe_cmpR {op : CmpOp} {r : R2} (ho : OpR X (compareOp op) r) (ha : PE X a ta) (hb : PE X b tb) (hm : behindInMarks op b = false) : PE X (.Compare a [op] [b] pos) (tOp r ta tb) := by
  intro pins s σ H Q I h
  exact wpAny_Compare1 (binT ha hb I h fun v u s2 x y H2 I2 rx ry q => ho pins s2 σ H2 x y v u Q I2 rx ry q) hm
def tTest (t : TE) : TT := fun σ H Q => t σ H fun x H' => ∃ k, x = .bl k ∧ Q k H'
theorem pt_cmpR {op : CmpOp} {r : R2} (ho : OpR X (compareOp op) r) (ha : PE X a ta) (hb : PE X b tb) (hm : behindInMarks op b = false) : PT X (.Compare a [op] [b] pos) (tTest (tOp r ta tb)) := by
  intro pins s σ H Q I h
  refine wpAny_isTrue_Compare1 (thn (ha pins s σ H _ I h) fun v s1 ⟨x, H1, I1, r1, q1⟩ => thn (hb pins s1 σ H1 _ I1 q1) fun u s2 ⟨y, H2, I2, r2, q2⟩ =>
    thn (ho pins s2 σ H2 x y v u _ I2 r1 r2 q2) fun c s3 ⟨z, H3, I3, r3, k, e, q3⟩ => ?_) hm
  subst e
  cases r3
  exact wpAny_truthy_bool ⟨H3, I3, q3⟩

theorem line63 : (sizeLine : Nat) < 2 ^ 63 := by rw [sizeLine_eq]; decide

theorem op_add_str : OpR X (binaryOp .Add) (fun x y H Q => ∃ i j, x = .str i ∧ y = .str j ∧ i.length + j.length ≤ sizeLine ∧ Q (.str (i ++ j)) H) := by
  intro pins s σ H x y v u Q I rx ry h
  obtain ⟨i, j, rfl, rfl, hz, q⟩ := h
  obtain ⟨t, rfl⟩ := rx
  obtain ⟨t', rfl⟩ := ry
  exact add_str (fun t' tk => ⟨.str (i ++ j), H, I.tok _, ⟨_, rfl⟩, q⟩) hz


theorem vals1 {x : V} {us : List Value} (r : Vals [x] us) : ∃ u, us = [u] ∧ RelV x u := by
  cases r with
  | cons r1 r2 => cases r2; exact ⟨_, rfl, r1⟩
theorem vals2 {x y : V} {us : List Value} (r : Vals [x, y] us) : ∃ u w', us = [u, w'] ∧ RelV x u ∧ RelV y w' := by
  cases r with
  | cons r1 r2 =>
    cases r2 with
    | cons r3 r4 => cases r4; exact ⟨_, _, rfl, r1, r3⟩
theorem call_str_int : CallR X (.type "str") (fun xs H Q => ∃ i, xs = [.int i] ∧ i.natAbs.log2 < 1920 ∧ Q (.str (toString i)) H) := by
  intro pins s σ H xs us Q I r h
  obtain ⟨i, rfl, hz, q⟩ := h
  obtain ⟨u, rfl, t, rfl⟩ := vals1 r
  exact PySem.P.str_of_int hz ⟨.str _, H, I.tok _, ⟨_, rfl⟩, q⟩
end
end L2

namespace L2
open PySem PySem.Spec PyProof.Rows

structure ObjM (h : Heap) (x dx C : Addr) (mA : Str → Option Value) : Prop where
  obj : h.get? x = some (PySem.W.instObj C dx)
  ns : h.Ns1 dx mA
  ne : dx ≠ x

theorem lookIn_ns {h : Heap} {dx : Addr} {mA : Str → Option Value} (n : h.Ns1 dx mA) : ∃ od, h.get? dx = some od ∧ ∀ name, PySem.W.lookIn name od = some (mA name) := by
  obtain ⟨o, es, ep, ho, hd, hk, _, hm⟩ := n
  refine ⟨o, ho, fun name => ?_⟩
  have e := hm name
  unfold nsFind findBy at e
  rw [← Array.find?_toList] at e
  unfold PySem.W.lookIn
  rw [hd]
  dsimp only
  split
  · rename_i y q
    rw [q] at e
    exact congrArg some e
  · rename_i q
    rw [q] at e
    have a : es.toList.any (·.refKey) = false := by
      rw [List.any_eq_false]
      intro y hy
      obtain ⟨z, t, hkey⟩ := hk y (Array.mem_toList_iff.mp hy)
      simp [DictEntry.refKey, hkey]
    have a' : ¬ es.toList.any (·.refKey) = true := by rw [a]; exact Bool.false_ne_true
    rw [if_neg a']
    exact congrArg some e

theorem ObjM.look {h : Heap} {x dx C : Addr} {mA : Str → Option Value} (I : ObjM h x dx C mA) : ∃ od, PySem.W.InstAt h x (PySem.W.instObj C dx) C (some od) ∧ ∀ name, PySem.W.lookIn name od = some (mA name) :=
  let ⟨od, ho, hl⟩ := lookIn_ns I.ns
  ⟨od, ⟨I.obj, rfl, rfl, ho⟩, hl⟩

section
variable {prog : Program} {w : World} {A : Around} {E : Value → Shared → Prop} {s : Shared} {K : PySem.W.Frag} {x dx C f : Addr} {mA : Str → Option Value} {name : Str} {v : Value}





end



section
variable {P : Program} {w : World} {H H' : Hp} {h h' : Heap} {a C dx : Addr} {fs fs' : List (Str × V)}
theorem ins_get (hok : HOk P w H h) (e : H a = some (.ins C dx fs)) : ∃ mA, ObjM h a dx C mA ∧ (∀ f, RelO (fs.lookup f) (mA f)) ∧ PySem.Within mA (fs.map (·.1)) ∧ fs.length ≤ 1000 ∧ H dx = some (.own a) := by
  obtain ⟨d, z, ne, ob, mA, n, r, q⟩ := (show ObjOk P w H h a (.ins C dx fs) from hok a _ e)
  exact ⟨mA, ⟨ob, n, ne⟩, r, q, z, d⟩
end

structure Cls (K : PySem.W.Frag) (C : Addr) : Prop where
  pg : PySem.W.plainGet K C Str.empty = true
  hd : PySem.W.hasDictIn K C = true
  po : PySem.W.plainOver K C = true
  sa : PySem.W.findIn K (.ref C) "__setattr__" = some (some (.builtin "object.__setattr__"))
theorem Cls.get {K : PySem.W.Frag} {C : Addr} (c : Cls K C) (f : Str) : PySem.W.plainGet K C f = true := c.pg

section
variable {X : Cx} {pins : List (Addr × Obj)} {σ : St} {H : Hp} {s : Shared} {a C dx : Addr} {fs : List (Str × V)} {f : Str} {v : V} {A : Around} {E : Value → Shared → Prop}






end


section
variable {X : Cx} {o e value : Expr} {f : Str} {pos pos' tpos : Pos} {ta tv : TE}

end

section
variable {X : Cx} {pins : List (Addr × Obj)} {σ : St} {H : Hp} {s : Shared} {A : Around} {E : Value → Shared → Prop} {Q : Value → Shared → Prop} {c : Value} {b : Bool}
inductive TyOf (K : PySem.W.Frag) (H : Hp) : V → Value → Prop where
  | non : TyOf K H .non (.type "NoneType")
  | bl (x : Bool) : TyOf K H (.bl x) (.type "bool")
  | int (i : Int) : TyOf K H (.int i) (.type "int")
  | str (x : Str) : TyOf K H (.str x) (.type "str")
  | flt (x : UInt64) : TyOf K H (.flt x) (.type "float")
  | lst {a : Addr} {xs : List V} (e : H a = some (.lst xs)) : TyOf K H (.ref a) (.type "list")
  | frz {a : Addr} {o : Obj} {xs : List V} (e : H a = some (.frz o (.lst xs))) : TyOf K H (.ref a) (.type "list")
  | tup {a : Addr} {xs : List V} (e : H a = some (.tup xs)) : TyOf K H (.ref a) (.type "tuple")
  | dK {a : Addr} {kvs : List (Key × V)} (e : H a = some (.dK kvs)) : TyOf K H (.ref a) (.type "dict")
  | dT {a : Addr} {kvs : List (List Key × V)} (e : H a = some (.dT kvs)) : TyOf K H (.ref a) (.type "dict")
  | ins {a C dx : Addr} {fs : List (Str × V)} (e : H a = some (.ins C dx fs)) (cl : Cls K C) (ha : PySem.W.findIn K (.ref C) "__class__" = some (some (.builtin "object.__class__")))
      (hn : PySem.W.specialIn K (.builtin "object.__class__") "__get__" = some (some (.builtin "getset_descriptor.__get__"))) (htk : PySem.W.takesIn K (.builtin "object.__class__") = some true)
      (hm : PySem.W.mroIn K C (.type "object") = some true) : TyOf K H (.ref a) (.ref C)
theorem isinst_ok {x : V} {u t : Value} (I : Inv X pins σ H s) (rx : RelV x u) (ty : TyOf X.K H x t) (e : PySem.W.kitOne X.K t c = some b) (h : ∀ tk, Q (.bool b) { s with toks := tk }) :
    wpAny (model X.prog X.w) A (call (.builtin "isinstance") [u, c]) Q E s := by
  cases ty with
  | non => cases (show u = Value.none from rx); exact PySem.W.kia_one PySem.W.kitx_none I.kIn True.intro e (fun z => nomatch z) h
  | bl y => cases (show u = Value.bool y from rx); exact PySem.W.kia_one PySem.W.kitx_bool I.kIn True.intro e (fun z => nomatch z) h
  | int i => obtain ⟨t, q⟩ := (show ∃ t, u = Value.int i t from rx); cases q; exact PySem.W.kia_one PySem.W.kitx_int I.kIn True.intro e (fun z => nomatch z) h
  | str y => obtain ⟨t, q⟩ := (show ∃ t, u = Value.str y t from rx); cases q; exact PySem.W.kia_one PySem.W.kitx_str I.kIn True.intro e (fun z => nomatch z) h
  | flt y => obtain ⟨t, q⟩ := (show ∃ t, u = Value.float y t from rx); cases q; exact PySem.W.kia_one PySem.W.kitx_float I.kIn True.intro e (fun z => nomatch z) h
  | @lst a xs ea =>
    cases (show u = Value.ref a from rx)
    obtain ⟨_, _, n, _, h1⟩ := (show ObjOk X.prog X.w H s.heap a (.lst xs) from I.hok a _ ea)
    exact PySem.W.kia_one PySem.W.kitx_list I.kIn ⟨_, h1, rfl⟩ e (fun z => nomatch z) h
  | @frz a ob xs ea =>
    cases (show u = Value.ref a from rx)
    obtain ⟨_, _, _, n, _, h1⟩ := (show ObjOk X.prog X.w H s.heap a (.frz ob (.lst xs)) from I.hok a _ ea)
    exact PySem.W.kia_one PySem.W.kitx_list I.kIn ⟨_, h1, rfl⟩ e (fun z => nomatch z) h
  | @tup a xs ea =>
    cases (show u = Value.ref a from rx)
    obtain ⟨_, _, _, p⟩ := (show ObjOk X.prog X.w H s.heap a (.tup xs) from I.hok a _ ea)
    obtain ⟨o, h1, h2, _⟩ := p
    exact PySem.W.kia_one PySem.W.kitx_tuple I.kIn ⟨o, h1, h2⟩ e (fun z => nomatch z) h
  | @dK a kvs ea =>
    cases (show u = Value.ref a from rx)
    obtain ⟨_, _, vs, _, p⟩ := (show ObjOk X.prog X.w H s.heap a (.dK kvs) from I.hok a _ ea)
    obtain ⟨o, es, ep, h1, h2, _⟩ := p
    exact PySem.W.kia_one PySem.W.kitx_dict I.kIn ⟨o, h1, h2.1⟩ e (fun z => nomatch z) h
  | @dT a kvs ea =>
    cases (show u = Value.ref a from rx)
    obtain ⟨_, _, xs, _, o, es, ep, h1, h2, _⟩ := (show ObjOk X.prog X.w H s.heap a (.dT kvs) from I.hok a _ ea)
    exact PySem.W.kia_one PySem.W.kitx_dict I.kIn ⟨o, h1, h2.1⟩ e (fun z => nomatch z) h
  | @ins a C dx fs ea cl ha hn htk hm =>
    cases (show u = Value.ref a from rx)
    obtain ⟨mA, O, _⟩ := ins_get I.hok ea
    obtain ⟨od, J, _⟩ := O.look
    exact PySem.W.kia_one (PySem.W.kitx_own (cl.get _) cl.hd ha hn htk hm) I.kIn J e (fun z => nomatch z) h
end
end L2

namespace L2
open PySem PySem.Spec PyProof.Rows

structure Room (k : Nat) (A : Around) : Prop where
  hd : A.handled = none
  dp : A.depth + 3 * k + 5 < recursionLimit
  un : A.units + 16 * k + 200 < cLine
  gd : A.guards = some []
theorem Room.mono {j k : Nat} {A : Around} (r : Room k A) (h : j ≤ k) : Room j A := ⟨r.hd, by have := r.dp; omega, by have := r.un; omega, by first | exact r.gd | simpa [Around.under, Code.guards, Code.isGuard, pushGuards, guardIds] using r.gd⟩
theorem Room.deeper {k : Nat} {A : Around} (r : Room (k + 1) A) (env : Env) : Room k (A.deeper env) :=
  ⟨r.hd, by have := r.dp; show A.depth + 1 + 3 * k + 5 < _; omega, by have := r.un; show A.units + 3 + 16 * k + 200 < _; omega, by first | exact r.gd | simpa [Around.under, Code.guards, Code.isGuard, pushGuards, guardIds] using r.gd⟩
theorem Room.depth {k : Nat} {A : Around} (r : Room k A) : A.depth < recursionLimit := by have := r.dp; omega
theorem Room.units {k : Nat} {A : Around} (r : Room k A) : A.units + 64 < cLine := by have := r.un; omega

def tNil : TA := fun _ H Q => Q [] H
def tCons (ta : TE) (tr : TA) : TA := fun σ H Q => ta σ H fun x H1 => tr σ H1 fun xs H2 => Q (x :: xs) H2
section
variable {X : Cx} {e : Expr} {es : List Expr} {te : TE} {t : TA} {pos : Pos}
theorem pa_nil : PA X [] tNil := fun _ _ _ _ H Q I h => Calls.spliced_nil ⟨[], H, I, .nil, h⟩
theorem pa_cons (ha : PE X e te) (hr : PA X es t) (hs : starEach (e :: es) X.env = (false, eval e X.env) :: starEach es X.env := by rfl) : PA X (e :: es) (tCons te t) := by
  intro pos pins s σ H Q I h
  rw [hs]
  show wpAny _ _ (spliced ((false, eval e X.env) :: backTo pos (starEach es X.env))) _ _ s
  refine Calls.spliced_cons (thn (ha pins s σ H _ I h) fun u s1 ⟨x, H1, I1, r1, q1⟩ => ?_)
  exact thn (hr pos pins s1 σ H1 _ I1 q1) fun us s2 ⟨xs, H2, I2, r2, q2⟩ => ⟨x :: xs, H2, I2, .cons r1 r2, q2⟩

def tTup (t : TA) : TE := fun σ H Q => t σ H fun xs H1 => xs.length ≤ sizeLine ∧ ∀ p, H1 p = none → Q (.ref p) (upd H1 p (.tup xs))
def tLst (t : TA) : TE := fun σ H Q => t σ H fun xs H1 => xs.length ≤ sizeLine ∧ ∀ p, H1 p = none → Q (.ref p) (upd H1 p (.lst xs))
theorem pe_tup {x1} (h : PA X es t) : PE X (.Tuple es x1 pos) (tTup t) := by
  intro pins s σ H Q I hq
  refine wpAny_Tuple_spliced (thn (h pos pins s σ H _ I hq) fun us s1 ⟨xs, H1, I1, r, z, q⟩ => ⟨by rw [← r.length]; exact z, ?_⟩)
  have hf : H1 s1.heap.objs.size = none := I1.hok.fresh (Nat.le_refl _)
  refine ⟨.ref s1.heap.objs.size, upd H1 s1.heap.objs.size (.tup xs), I1.laid (t' := s1.toks) (fun b u e => Heap.get?_push_of_some _ e) (Nat.le_refl _) ?_, rfl, q _ hf⟩
  exact ⟨z, us, r, ⟨_, Heap.get?_push_size _ rfl, rfl, _, rfl⟩⟩
theorem pe_lst (h : PA X es t) : PE X (.List es pos) (tLst t) := by
  intro pins s σ H Q I hq
  refine wpAny_List_spliced (thn (h pos pins s σ H _ I hq) fun us s1 ⟨xs, H1, I1, r, z, q⟩ => ⟨by rw [← r.length]; exact z, ?_⟩)
  have hf : H1 s1.heap.objs.size = none := I1.hok.fresh (Nat.le_refl _)
  refine ⟨.ref s1.heap.objs.size, upd H1 s1.heap.objs.size (.lst xs), I1.laid (t' := s1.toks) (fun b u e => Heap.get?_push_of_some _ e) (Nat.le_refl _) ?_, rfl, q _ hf⟩
  exact ⟨z, us, 0, r, Heap.get?_push_size _ rfl⟩
end

abbrev Sp := List V → Hp → VK → XK → Prop
abbrev CXT := List Env → Hp → Shared → XK → Value → Shared → Prop

structure Env0 (P : Program) (w : World) (K : PySem.W.Frag) (mg : Str → Option Value) (base : Heap) (A : Around) (outer : List Env) (s : Shared) (H : Hp) : Prop where
  frames : A.frames = some outer
  mod : Mod K mg base
  bs : ∀ b o, base.get? b = some o → s.heap.get? b = some o ∧ H b = none
  bsz : base.objs.size ≤ s.heap.objs.size
  funs : s.heap.FunFrames base outer
  frf : ∀ b ∈ frs outer, H b = none
  hok : HOk P w H s.heap
  bare : AllBare s.gens
def CE (outer : List Env) (P : Program) (w : World) (H : Hp) (s : Shared) (Q : VK) (u : Value) (s' : Shared) : Prop :=
  ∃ v H', s'.os = s.os ∧ AllBare s'.gens ∧ Un (frs outer) [] H H' s.heap s'.heap ∧ HOk P w H' s'.heap ∧ RelV v u ∧ Q v H'
def CR (CX : CXT) (outer : List Env) (P : Program) (w : World) (H : Hp) (s : Shared) (Q : VK) (E : XK) (r : Result) (s' : Shared) : Prop :=
  match r with
  | .ok (.ret u) => CE outer P w H s Q u s'
  | .ok _ => False
  | .error e => CX outer H s E e s'
structure FnOk (P : Program) (w : World) (K : PySem.W.Frag) (mg : Str → Option Value) (base : Heap) (CX : CXT) (k : Nat) (f : Addr) (fd : FuncData) (ps : List Str) (sp : Sp) : Prop where
  len : ∀ vs H Q E, sp vs H Q E → vs.length = ps.length
  run : ∀ (A : Around) (outer : List Env) (s : Shared) (H : Hp) (args : Args) (us : List Value) (vs : List V) (Q : VK) (E : XK), Room k A → Env0 P w K mg base A outer s H → BindsTo s fd args (ps.zip us) → Vals vs us → sp vs H Q E →
    codeAny (model P w) A (.call (.ref f) args) (CR CX outer P w H s Q E) s


section
variable {X : Cx} {pins : List (Addr × Obj)} {σ : St} {H : Hp} {s s' : Shared}
theorem Inv.env0 (I : Inv X pins σ H s) : Env0 X.prog X.w X.K X.mg X.base X.A X.stack s H :=
  ⟨I.ok.frames, I.ok.mod, I.bs, Nat.le_trans I.ok.bsz I.sz, I.stack, I.stkFree, I.hok, I.bare⟩
theorem Inv.after {Q : VK} {u : Value} (I : Inv X pins σ H s) (h : CE X.stack X.prog X.w H s Q u s') : EP X pins σ Q u s' := by
  obtain ⟨v, H', os, bare, un, hok, r, q⟩ := h
  obtain ⟨hh, g, d, t, os'⟩ := s'
  obtain rfl : os' = s.os := os
  exact ⟨v, H', I.call (h' := hh) (g' := g) (d' := d) (t' := t) (ch := []) un hok bare (fun b z => absurd z (by simp)), r, q⟩
end

def tCall (sp : Sp) (dvs : List V) (E : XK) (t : TA) : TE := fun σ H Q => t σ H fun vs H1 => sp (vs ++ dvs) H1 Q E

def Binds (K : PySem.W.Frag) (fd : FuncData) (ps : List Str) (ds : List Value) : Prop :=
  ∀ (s : Shared) (us : List Value), K.In s.heap → (us ++ ds).length = ps.length → BindsTo s fd ⟨us, []⟩ (ps.zip (us ++ ds))
theorem Binds.all {K : PySem.W.Frag} {fd : FuncData} {ps : List Str} (h : ∀ us : List Value, us.length = ps.length → bindArgs fd ⟨us, []⟩ = pure (ps.zip us)) : Binds K fd ps [] := fun s us _ hl => by
  rw [List.append_nil] at hl ⊢
  exact .of_eq (h us hl)

def Passes (CX : CXT) (X : Cx) (E : XK) : Prop := ∀ (pins : List (Addr × Obj)) (σ : St) (H : Hp) (s : Shared) (e : Value) (s' : Shared), Inv X pins σ H s → CX X.stack H s E e s' → X.xe e s'

section
variable {X : Cx} {CX : CXT} {k : Nat} {f C : Addr} {fd : FuncData} {ps : List Str} {sp : Sp} {dvs : List V} {ds : List Value} {E : XK} {x m : Str} {p pos apos : Pos} {e o : Expr} {es : List Expr} {ta : TE} {t : TA}

theorem run_fn {pins : List (Addr × Obj)} {σ : St} {H : Hp} {s : Shared} {Q : VK} {us : List Value} {vs : List V} (F : FnOk X.prog X.w X.K X.mg X.base CX k f fd ps sp) (hr : Room k X.A) (hb : Binds X.K fd ps ds) (hd : Vals dvs ds) (hx : Passes CX X E)
    (I : Inv X pins σ H s) (r : Vals vs us) (h : sp (vs ++ dvs) H Q E) : wpAny (model X.prog X.w) X.A (call (.ref f) us) (EP X pins σ Q) X.xe s := by
  have r2 : Vals (vs ++ dvs) (us ++ ds) := r.append hd
  have hl : (us ++ ds).length = ps.length := by rw [← r2.length]; exact F.len _ _ _ _ h
  refine wpAny_call (codeAny_mono (F.run X.A X.stack s H ⟨us, []⟩ (us ++ ds) (vs ++ dvs) Q E hr I.env0 (hb s us I.kIn hl) r2 h) fun r s' hq => ?_)
  cases r with
  | error e => exact hx pins σ H s e s' I hq
  | ok fl =>
    cases fl with
    | ret u => exact I.after hq
    | next => exact False.elim hq
    | brk => exact False.elim hq
    | cont => exact False.elim hq

theorem pe_call (F : FnOk X.prog X.w X.K X.mg X.base CX k f fd ps sp) (hr : Room k X.A) (hg : Gl X x) (hm : X.mg x = some (.ref f)) (hk : PySem.W.keepIn X.K (.ref f) = true) (hb : Binds X.K fd ps ds) (hd : Vals dvs ds) (hx : Passes CX X E)
    (ha : PA X (e :: es) t) (hdb : (x == ("__debug__" : Str)) = false := by decide) (he : starEach (e :: es) X.env = (false, eval e X.env) :: starEach es X.env := by rfl) (hpl : (backTo pos (starEach es X.env)).any (·.1) = false := by rfl) :
    PE X (.Call (.Name x p) (e :: es) [] pos) (tCall sp dvs E t) := by
  intro pins s σ H Q I h
  refine wpAny_Call_Name_kw (ld_glob I hg hm ?_ hdb)
  refine PySem.W.callWith_K (h₀ := X.base) I.ok.mod.kin hk (thn (ha pos pins s σ H _ I h) fun us s1 ⟨vs, H1, I1, r, q⟩ => ⟨I1.kIn, ?_⟩) he hpl
  exact run_fn F hr hb hd hx I1 r q



end

section
variable {X : Cx} {CX : CXT} {k : Nat} {f C : Addr} {fd : FuncData} {ps ks : List Str} {sp : Sp} {E : XK} {x m : Str} {p pos apos kpos : Pos} {e o : Expr} {es : List Expr} {kws : List Keyword} {te ta : TE} {t tk : TA} {nm : Option Str}

variable {g : List Value → List Value → List Value} {gV : List V → List V → List V}
end

structure FnScope (N P : List Str) (sc : Scope) : Prop where
  kind : sc.kind = .function
  co : sc.isCoroutine = false
  gen : sc.isGenerator = false
  nd : N.Nodup
  pre : N.take P.length = P
  par : ∀ x ∈ P, sc.names.lookup x = some .local ∨ sc.names.lookup x = some .cell
  nofree : ∀ y ∈ sc.names, y.2 ≠ .free

theorem bindL_out {kindOf : Str → Option NameKind} {x : Str} : ∀ {binds : List (Str × Value)} {m : Str → Option Value}, (∀ v, (x, v) ∉ binds) → bindL kindOf binds m x = m x
  | [], _, _ => rfl
  | (n, v) :: r, m, h => by
    unfold bindL
    rw [bindL_out fun w hw => h w (List.mem_cons_of_mem _ hw)]
    split
    · have : x ≠ n := by rintro rfl; exact h v List.mem_cons_self
      simp [this]
    · rfl
theorem bindC_out {kindOf : Str → Option NameKind} {x : Str} : ∀ {binds : List (Str × Value)} {m : Str → Option Value}, (∀ v, (x, v) ∉ binds) → bindC kindOf binds m x = m x
  | [], _, _ => rfl
  | (n, v) :: r, m, h => by
    unfold bindC
    rw [bindC_out fun w hw => h w (List.mem_cons_of_mem _ hw)]
    split
    · rfl
    · have : x ≠ n := by rintro rfl; exact h v List.mem_cons_self
      simp [this]
theorem bindL_get {kindOf : Str → Option NameKind} {x : Str} {v : Value} : ∀ {P : List Str} {vs : List Value} {i : Nat} {m : Str → Option Value}, P.Nodup → P[i]? = some x → vs[i]? = some v → kindOf x = some .local →
    bindL kindOf (P.zip vs) m x = some v
  | [], _, _, _, _, h, _, _ => by simp at h
  | _ :: _, [], _, _, _, _, h, _ => by simp at h
  | p :: P, w :: vs, 0, m, nd, h1, h2, hk => by
    simp at h1 h2; subst h1; subst h2
    show bindL kindOf ((p, w) :: P.zip vs) m p = _
    unfold bindL
    rw [bindL_out fun v hv => (List.nodup_cons.mp nd).1 (List.of_mem_zip hv).1, if_pos hk]
    simp
  | p :: P, w :: vs, i + 1, m, nd, h1, h2, hk => by
    show bindL kindOf ((p, w) :: P.zip vs) m x = _
    unfold bindL
    exact bindL_get (i := i) (List.nodup_cons.mp nd).2 (by simpa using h1) (by simpa using h2) hk
theorem bindC_get {kindOf : Str → Option NameKind} {x : Str} {v : Value} : ∀ {P : List Str} {vs : List Value} {i : Nat} {m : Str → Option Value}, P.Nodup → P[i]? = some x → vs[i]? = some v → kindOf x ≠ some .local →
    bindC kindOf (P.zip vs) m x = some v
  | [], _, _, _, _, h, _, _ => by simp at h
  | _ :: _, [], _, _, _, _, h, _ => by simp at h
  | p :: P, w :: vs, 0, m, nd, h1, h2, hk => by
    simp at h1 h2; subst h1; subst h2
    show bindC kindOf ((p, w) :: P.zip vs) m p = _
    unfold bindC
    rw [bindC_out fun v hv => (List.nodup_cons.mp nd).1 (List.of_mem_zip hv).1, if_neg hk]
    simp
  | p :: P, w :: vs, i + 1, m, nd, h1, h2, hk => by
    show bindC kindOf ((p, w) :: P.zip vs) m x = _
    unfold bindC
    exact bindC_get (i := i) (List.nodup_cons.mp nd).2 (by simpa using h1) (by simpa using h2) hk

def start (N : List Str) (vs : List V) : St := vs.map some ++ List.replicate (N.length - vs.length) none

def cxOf (CX : CXT) (P : Program) (w : World) (K : PySem.W.Frag) (mg : Str → Option Value) (base : Heap) (N : List Str) (qual : Str) (scope : Scope) (f : Addr) (cd : Value) (A : Around) (outer : List Env) (s : Shared) (H : Hp) (E : XK) : Cx where
  prog := P
  w := w
  K := K
  mg := mg
  base := base
  A := A.deeper (envOfC qual scope s.heap.objs.size f cd)
  N := N
  s₀ := s
  H₀ := H
  env := envOfC qual scope s.heap.objs.size f cd
  outer := outer
  stack := envOfC qual scope s.heap.objs.size f cd :: outer
  ex := []
  calm := true
  fn := fun _ => true
  pn := []
  xe := fun e s' => wpAny (model P w) (A.deeper (envOfC qual scope s.heap.objs.size f cd)) (leaving (envOfC qual scope s.heap.objs.size f cd) e) (fun _ s'' => CX outer H s E e s'') (fun e' s'' => CX outer H s E e' s'') s'

theorem cell_has {sc : Scope} {n : Nat} {x : Str} (h : sc.names.lookup x = some .cell) : ∃ c, (cellsFrom n sc.names []).lookup x = some c := by
  have q := PySem.W.cellsFrom_some sc.names n [] (.inl h)
  exact Option.isSome_iff_exists.mp q

theorem inv_start {CX : CXT} {P : Program} {w : World} {K : PySem.W.Frag} {mg : Str → Option Value} {base : Heap} {N ps : List Str} {qual : Str} {scope : Scope} {f : Addr} {cd : Value} {A : Around} {outer : List Env} {s s1 : Shared} {H : Hp} {E : XK} {us : List Value} {vs : List V}
    (S : FnScope N ps scope) (hd : A.handled = none) (e0 : Env0 P w K mg base A outer s H) (hl : vs.length = ps.length) (r : Vals vs us)
    (x : InCallC s s.heap.objs.size (bindL (envOfC qual scope s.heap.objs.size f cd).kindOf (ps.zip us) fun _ => none) (cellsFrom (s.heap.objs.size + 1) scope.names []) (bindC (envOfC qual scope s.heap.objs.size f cd).kindOf (ps.zip us) fun _ => none) s1) :
    Inv (cxOf CX P w K mg base N qual scope f cd A outer s H E) [] (start N vs) H s1 := by
  have hpl : ps.length ≤ N.length := by have := congrArg List.length S.pre; rw [List.length_take] at this; omega
  obtain ⟨h1, tk, rfl, hk⟩ := x.done
  have noA : ∀ b : Addr, b ∉ (cxOf CX P w K mg base N qual scope f cd A outer s H E).ex := fun b z => absurd (show b ∈ ([] : List Addr) from z) (by simp)
  refine ⟨⟨e0.mod, S.kind, rfl, rfl, Nat.le_refl _, fun y z c h1 h2 => ?_, fun y hy => ?_, fun y c _ h => ?_, fun _ => hd, Around.frames_deeper e0.frames, .inr ⟨rfl, rfl⟩, fun b z => absurd z (noA b), e0.bs, e0.bsz, fun b _ _ => noA b, fun b z => absurd z (noA b), e0.funs, e0.frf⟩,
    rfl, e0.bare, Un.kept hk, ⟨_, x.toInCall.ns, fun i y v h1 h2 h3 => ?_⟩, fun y c h => ⟨_, x.cell y c h⟩, e0.hok.fresh (Nat.le_refl _), fun y c h => ?_, fun p hp => absurd (show p ∈ ([] : List (Addr × Obj)) from hp) (by simp), e0.hok.kept hk, ?_⟩
  · exact name_of_addr x.apart (PySem.mem_of_lookup h1) (PySem.mem_of_lookup h2)
  · have hy : scope.names.lookup y = some .cell ∨ scope.names.lookup y = some .free := hy
    rcases hy with hy | hy
    · exact cell_has hy
    · exact absurd rfl (S.nofree _ (PySem.mem_of_lookup hy))
  · exact Nat.le_of_lt (x.above y c (PySem.mem_of_lookup h))
  · have hi : i < vs.length := by
      unfold start at h2
      by_cases hi : i < vs.length
      · exact hi
      · rw [List.getElem?_append_right (by simpa using hi)] at h2
        rw [List.getElem?_replicate] at h2
        split at h2 <;> cases h2
    have ha : vs[i]? = some v := by
      unfold start at h2
      rw [List.getElem?_append_left (by simpa using hi), List.getElem?_map] at h2
      cases e : vs[i]? with
      | none => rw [e] at h2; cases h2
      | some a => rw [e] at h2; cases h2; rfl
    obtain ⟨u, hu, rv⟩ := r.get ha
    have hp : ps[i]? = some y := by
      rw [← S.pre, List.getElem?_take_of_lt (by omega)]; exact h1
    have ndP : ps.Nodup := by rw [← S.pre]; exact S.nd.sublist (List.take_sublist _ _)
    refine ⟨u, rv, ?_⟩
    rcases S.par y (List.mem_of_getElem? hp) with k | k
    · exact .inl ⟨k, bindL_get ndP hp hu k⟩
    · obtain ⟨c, e⟩ := cell_has (n := s.heap.objs.size + 1) k
      refine .inr ⟨.inl k, c, e, ?_⟩
      have q := x.cell y c e
      rw [bindC_get ndP hp hu (by show scope.names.lookup y ≠ _; rw [k]; decide)] at q
      exact q
  · exact e0.hok.fresh (Nat.le_of_lt (x.above y c (PySem.mem_of_lookup h)))
  · unfold start
    show _ = N.length
    rw [List.length_append, List.length_map, List.length_replicate]
    omega

theorem fn_of {CX : CXT} {P : Program} {w : World} {K : PySem.W.Frag} {mg : Str → Option Value} {base : Heap} {k : Nat} {f : Addr} {name qual : Str} {params : Arguments} {body : List Stmt} {scope : Scope} {dV kV doc pm cdv ct oc : Value} {an od : Option Addr}
    {osl : Array (Option Value)} {N ps : List Str} {sp : Sp} (lk : K.lookup f = some ⟨oc, od, .func (PySem.W.fnOf name qual params body scope dV kV doc pm an cdv ct), osl⟩) (hcd : PySem.W.codeIn K cdv qual = true) (S : FnScope N ps scope)
    (len : ∀ vs H Q E, sp vs H Q E → vs.length = ps.length)
    (hbody : ∀ (A : Around) (outer : List Env) (s : Shared) (H : Hp) (vs : List V) (Q : VK) (E : XK), Room k (A.deeper (envOfC qual scope s.heap.objs.size f cdv)) → sp vs H Q E →
      ∃ t, PSs (cxOf CX P w K mg base N qual scope f cdv A outer s H E) body t ∧ t { nx := fun _ H' => Q .non H', rt := Q } (start N vs) H) :
    FnOk P w K mg base CX (k + 1) f (PySem.W.fnOf name qual params body scope dV kV doc pm an cdv ct) ps sp := by
  refine ⟨len, fun A outer s H args us vs Q E hr e0 hb r hsp => ?_⟩
  have hl := len _ _ _ _ hsp
  have KX : K.In s.heap := e0.mod.kin.keeps fun b o e => (e0.bs b o e).1
  have lim : s.heap.NoLimit := e0.mod.nolimit.keeps fun b o e => (e0.bs b o e).1
  have hkind : ∀ y ∈ ps.zip us, scope.names.lookup y.1 = some .local ∨ (scope.names.lookup y.1 = some .cell ∧ ((cellsFrom (s.heap.objs.size + 1) scope.names []).lookup y.1).isSome = true) := fun ⟨n, v⟩ hy => by
    rcases S.par n (List.of_mem_zip hy).1 with q | q
    · exact .inl q
    · exact .inr ⟨q, PySem.W.cellsFrom_some _ _ _ (.inl q)⟩
  refine codeAny_call_function hr.depth (KX _ _ lk) rfl S.co S.gen rfl (PySem.W.codeRec_of KX hcd) (hb _ _ _ _ ?_)
  refine wpAny_newFunctionEnv_cells S.kind hkind fun env he s1 x => ?_
  subst he
  refine ⟨lim.keeps x.toInCall.keep, codeAny_func ?_⟩
  obtain ⟨t, ht, hq⟩ := hbody A outer s H vs Q E (hr.deeper _) hsp
  have I : Inv (cxOf CX P w K mg base N qual scope f cdv A outer s H E) [] (start N vs) H s1 := inv_start S hr.hd e0 hl r x
  refine wpAny_mono (ht [] s1 (start N vs) H _ I hq) (fun fl s' hs => ?_) fun e s' hs => hs
  have fin : ∀ {σ' : St} {H' : Hp} {v : V} {u : Value}, Inv (cxOf CX P w K mg base N qual scope f cdv A outer s H E) [] σ' H' s' → RelV v u → Q v H' → CE outer P w H s Q u s' :=
    fun {σ' H' v u} J rv q => ⟨v, H', J.os, J.bare, J.base, J.hok, rv, q⟩
  cases fl with
  | ret u =>
    obtain ⟨v, σ', H', J, rv, q⟩ := hs
    exact fin J rv q
  | next =>
    obtain ⟨σ', H', J, q⟩ := hs
    exact fin (v := V.non) (u := Value.none) J rfl q
  | brk =>
    obtain ⟨_, _, _, q⟩ := hs
    exact False.elim q
  | cont =>
    obtain ⟨_, _, _, q⟩ := hs
    exact False.elim q
end L2

namespace L2
open PySem PySem.Spec PyProof.Rows
section
variable {X : Cx} {x : Str} {p pos : Pos} {e : Expr} {es : List Expr} {t : TA} {id T : String} {r : List V → Hp → VK → Prop}

def tCB (r : List V → Hp → VK → Prop) (t : TA) : TE := fun σ H Q => t σ H fun vs H1 => r vs H1 Q
theorem pe_callB (hc : CallR X (.builtin id) r) (hg : Gl X x) (hm : X.mg x = none) (hv : bootBuiltins x = some (.builtin id)) (ha : PA X (e :: es) t) (hn : x ≠ "__name__" := by decide) (hdb : (x == ("__debug__" : Str)) = false := by decide)
    (he : starEach (e :: es) X.env = (false, eval e X.env) :: starEach es X.env := by rfl) (hpl : (backTo pos (starEach es X.env)).any (·.1) = false := by rfl) : PE X (.Call (.Name x p) (e :: es) [] pos) (tCB r t) := by
  intro pins s σ H Q I h
  refine wpAny_Call_Name_kw (ld_blt I hg hm hv ?_ hn hdb)
  exact PyProof.Rows.callWith_builtin1 (thn (ha pos pins s σ H _ I h) fun us s1 ⟨vs, H1, I1, r1, q1⟩ => hc pins s1 σ H1 vs us Q I1 r1 q1) he hpl
theorem pe_callTy (hc : CallR X (.type T) r) (hg : Gl X x) (hm : X.mg x = none) (hv : bootBuiltins x = some (.type T)) (ha : PA X (e :: es) t) (hn : x ≠ "__name__" := by decide) (hdb : (x == ("__debug__" : Str)) = false := by decide)
    (he : starEach (e :: es) X.env = (false, eval e X.env) :: starEach es X.env := by rfl) (hpl : (backTo pos (starEach es X.env)).any (·.1) = false := by rfl) : PE X (.Call (.Name x p) (e :: es) [] pos) (tCB r t) := by
  intro pins s σ H Q I h
  refine wpAny_Call_Name_kw (ld_blt I hg hm hv ?_ hn hdb)
  exact PyProof.Rows.callWith_type1 (thn (ha pos pins s σ H _ I h) fun us s1 ⟨vs, H1, I1, r1, q1⟩ => hc pins s1 σ H1 vs us Q I1 r1 q1) he hpl
end
end L2

namespace HT
open PySem PyProof.Rows



section
open PySem.SeqAt
open PySem.AutoSeq1 (wpAny_loadPart')
open PySem.MeetsSeq PySem.MeetsSeq2 PySem.MeetsSeq3

end

section
variable {prog : Program} {w : World} {A : Around} {E : Value → Shared → Prop} {s : Shared}



def sIx (n d : Nat) : Option Int → Nat
  | none => d
  | some v => if v < 0 then (v + (n : Int)).toNat else min v.toNat n
theorem sIx_none (n d : Nat) : sIx n d none = d := rfl
theorem sIx_nat (n d k : Nat) : sIx n d (some (k : Int)) = min k n := by
  show (if (k : Int) < 0 then ((k : Int) + (n : Int)).toNat else min (k : Int).toNat n) = min k n
  rw [if_neg (by omega), Int.toNat_natCast]

end
end HT

namespace L2
open PySem PySem.Spec PyProof.Rows

abbrev TO := St → Hp → (Option Int → Hp → Prop) → Prop
def PO (X : Cx) (e : Option Expr) (t : TO) : Prop :=
  ∀ (pins : List (Addr × Obj)) (s : Shared) (σ : St) (H : Hp) (Q : Option Int → Hp → Prop), Inv X pins σ H s → t σ H Q →
    wpAny (model X.prog X.w) X.A (evalPart e X.env) (fun u s' => ∃ o H', Inv X pins σ H' s' ∧ IsPart u o ∧ Q o H') X.xe s
def tNoPart : TO := fun _ H Q => Q none H
def tPart (t : TE) : TO := fun σ H Q => t σ H fun x H1 => ∃ i, x = .int i ∧ Q (some i) H1


section
variable {X : Cx} {e : Expr} {te : TE} {lo hi : Option Expr} {tl th : TO} {pos p2 : Pos}

theorem po_none : PO X none tNoPart := by
  intro pins s σ H Q I h
  rw [evalPart_none]
  exact wpAny_pure ⟨none, H, I, .none, h⟩
theorem po_some (h : PE X e te) : PO X (some e) (tPart te) := by
  intro pins s σ H Q I hw
  rw [evalPart_some]
  refine thn (h pins s σ H _ I hw) fun u s1 ⟨x, H1, I1, r1, q1⟩ => ?_
  obtain ⟨i, rfl, q⟩ := q1
  obtain ⟨t, rfl⟩ := r1
  exact ⟨some i, H1, I1, .int i t, q⟩

def SlR (X : Cx) (r : V → Option Int → Option Int → Hp → VK → Prop) : Prop :=
  ∀ (pins : List (Addr × Obj)) (s : Shared) (σ : St) (H : Hp) (x : V) (v vl vu : Value) (lo hi : Option Int) (sl : Addr) (Q : VK), Inv X pins σ H s → RelV x v → s.heap.IsSliceOf sl vl vu .none → IsPart vl lo → IsPart vu hi → r x lo hi H Q →
    ∃ T id, typeLookup (.type T) "__getitem__" = pure (some (.builtin id)) ∧ s.TypeIs v T ∧ wpAny (model X.prog X.w) X.A (getItem v (.ref sl)) (EP X pins σ Q) X.xe s
def tSl (r : V → Option Int → Option Int → Hp → VK → Prop) (te : TE) (tl th : TO) : TE := fun σ H Q => te σ H fun x H1 => tl σ H1 fun l H2 => th σ H2 fun u H3 => r x l u H3 Q
theorem pe_slice {r : V → Option Int → Option Int → Hp → VK → Prop} (hr : SlR X r) (he : PE X e te) (hl : PO X lo tl) (hu : PO X hi th) : PE X (.Subscript e (.Slice lo hi none p2) pos) (tSl r te tl th) := by
  intro pins s σ H Q I h
  refine Subscript_ (thn (he pins s σ H _ I h) fun v s1 ⟨x, H1, I1, r1, q1⟩ => ?_)
  refine wpAny_Slice (thn (hl pins s1 σ H1 _ I1 q1) fun vl s2 ⟨l, H2, I2, pl, q2⟩ => thn (hu pins s2 σ H2 _ I2 q2) fun vu s3 ⟨u, H3, I3, pu, q3⟩ => ?_)
  rw [evalPart_none]
  refine wpAny_pure ?_
  have I4 : Inv X pins σ H3 { s3 with heap := s3.heap.push { cls := .type "slice", data := .fields #[vl, vu, .none] } } := I3.kept (t' := s3.toks) fun b ob q => Heap.get?_push_of_some _ q
  obtain ⟨T, id, hT, ht, hg⟩ := hr pins { s3 with heap := s3.heap.push { cls := .type "slice", data := .fields #[vl, vu, .none] } } σ H3 x v vl vu l u s3.heap.objs.size Q I4 r1 (Heap.IsSliceOf.new ..) pl pu q3
  show wpAny (model X.prog X.w) X.A (subscriptTail e (.Slice lo hi none p2) v (.ref s3.heap.objs.size)) (EP X pins σ Q) X.xe { s3 with heap := s3.heap.push { cls := .type "slice", data := .fields #[vl, vu, .none] } }
  exact tail_any (ops := [.ref s3.heap.objs.size, v]) ht hT hg (by with_unfolding_all rfl)

def cutV (xs : List V) (lo hi : Option Int) : List V := (xs.drop (HT.sIx xs.length 0 lo)).take (HT.sIx xs.length xs.length hi - HT.sIx xs.length 0 lo)
theorem cutV_length (xs : List V) (lo hi : Option Int) : (cutV xs lo hi).length ≤ xs.length := by
  unfold cutV
  rw [List.length_take, List.length_drop]
  omega

end
end L2

namespace L2
open PySem PySem.Spec PyProof.Rows

def ixN (n : Nat) (i : Int) : Option Nat := if 0 ≤ i then (if i < n then some i.toNat else none) else if -(n : Int) ≤ i then some (i + n).toNat else none
def atI {α : Type} (xs : List α) (i : Int) : Option α := (ixN xs.length i).bind fun j => xs[j]?
theorem ixN_seq {n : Nat} {i : Int} {j : Nat} (h : ixN n i = some j) : seqIndex? i n = some j ∧ j < n ∧ -(n : Int) ≤ i ∧ i < n := by
  unfold ixN at h
  by_cases h0 : 0 ≤ i
  · rw [if_pos h0] at h
    by_cases h1 : i < n
    · rw [if_pos h1] at h
      have e : i.toNat = j := Option.some.inj h
      exact ⟨by rw [seqIndex_of h0 h1, e], by omega, by omega, h1⟩
    · rw [if_neg h1] at h; cases h
  · rw [if_neg h0] at h
    by_cases h1 : -(n : Int) ≤ i
    · rw [if_pos h1] at h
      have e : (i + n).toNat = j := Option.some.inj h
      exact ⟨by rw [seqIndex_neg (by omega) h1, e], by omega, h1, by omega⟩
    · rw [if_neg h1] at h; cases h
theorem atI_get {α : Type} {xs : List α} {i : Int} {v : α} (h : atI xs i = some v) : ∃ j, seqIndex? i xs.length = some j ∧ xs[j]? = some v ∧ j < xs.length ∧ -(xs.length : Int) ≤ i ∧ i < xs.length := by
  unfold atI at h
  cases e : ixN xs.length i with
  | none => rw [e] at h; cases h
  | some j =>
    rw [e] at h
    obtain ⟨h1, h2, h3, h4⟩ := ixN_seq e
    exact ⟨j, h1, h, h2, h3, h4⟩
theorem atI_nat {α : Type} {xs : List α} {j : Nat} {v : α} (h : xs[j]? = some v) : atI xs (j : Int) = some v := by
  have hj : j < xs.length := (List.getElem?_eq_some_iff.mp h).1
  have e : ixN xs.length (j : Int) = some j := by
    unfold ixN
    rw [if_pos (by omega), if_pos (by omega)]; simp
  unfold atI; rw [e]; exact h
theorem atI_last {α : Type} (xs : List α) (v : α) : atI (xs ++ [v]) (-1) = some v := by
  have hl : (xs ++ [v]).length = xs.length + 1 := by simp
  have e : ixN (xs ++ [v]).length (-1) = some xs.length := by
    unfold ixN
    rw [hl, if_neg (by decide), if_pos (by omega)]
    congr 1
    omega
  unfold atI
  rw [e]
  show (xs ++ [v])[xs.length]? = some v
  simp

def PlainIx (b : Expr) : Prop := ∀ o i, subscripted b false o i = operate [o, i] (getItem o i)
def IxR (X : Cx) (r : R2) : Prop :=
  ∀ (value slice : Expr) (pins : List (Addr × Obj)) (s : Shared) (σ : St) (H : Hp) (x y : V) (v u : Value) (Q : VK), Inv X pins σ H s → RelV x v → RelV y u → r x y H Q →
    subscripted slice false v u = operate [v, u] (getItem v u) → wpAny (model X.prog X.w) X.A (subscriptTail value slice v u) (EP X pins σ Q) X.xe s
def MtR (X : Cx) (id : String) (r : V → List V → Hp → VK → Prop) : Prop :=
  ∀ (pins : List (Addr × Obj)) (s : Shared) (σ : St) (H : Hp) (x : V) (xs : List V) (v : Value) (us : List Value) (Q : VK), Inv X pins σ H s → RelV x v → Vals xs us → r x xs H Q →
    wpAny (model X.prog X.w) X.A (call (.builtin id) (v :: us)) (EP X pins σ Q) X.xe s
section
variable {X : Cx} {a b : Expr} {ta tb : TE} {pos : Pos}
theorem pe_ix {r : R2} (hr : IxR X r) (ha : PE X a ta) (hb : PE X b tb) (hs : PlainIx b) : PE X (.Subscript a b pos) (tOp r ta tb) := by
  intro pins s σ H Q I h
  exact Subscript_ (binT ha hb I h fun v u s2 x y H2 I2 rx ry q => hr a b pins s2 σ H2 x y v u Q I2 rx ry q (hs _ _))

def rIxL (K : PySem.W.Frag) : R2 := fun x y H Q => ∃ p xs i v, x = .ref p ∧ y = .int i ∧ SqL K H p xs ∧ atI xs i = some v ∧ Q v H
def rIxT (K : PySem.W.Frag) : R2 := fun x y H Q => ∃ p xs i v, x = .ref p ∧ y = .int i ∧ SqT K H p xs ∧ atI xs i = some v ∧ Q v H
def rIxS : R2 := fun x y H Q => ∃ z i c, x = .str z ∧ y = .int i ∧ z.length ≤ sizeLine ∧ atI z.cps.toList i = some c ∧ Q (.str ⟨#[c]⟩) H
theorem ix_list : IxR X (rIxL X.K) := by
  intro value slice pins s σ H x y v u Q I rx ry h hs
  obtain ⟨p, xs, i, z, rfl, rfl, hq, he, q⟩ := h
  cases rx
  obtain ⟨t, rfl⟩ := ry
  obtain ⟨its, r, pl, hz⟩ := I.list hq
  obtain ⟨j, h1, h2, h3, h4, h5⟩ := atI_get he
  obtain ⟨w, ew, rw'⟩ := r.get h2
  have hl := r.length
  have hn := line63
  have fin : EP X pins σ Q w s := ⟨z, H, I, rw', q⟩
  by_cases h0 : 0 ≤ i
  · have hj : i.toNat = j := by
      rw [seqIndex_of h0 h5] at h1
      exact Option.some.inj h1
    exact item_listR pl.isList h0 (by omega) (by rw [hj]; simpa using ew) fin hs
  · have hj : (i + (its.toArray.size : Int)).toNat = j := by
      rw [seqIndex_neg (by omega) h4] at h1
      rw [List.size_toArray, ← hl]
      exact Option.some.inj h1
    exact subscriptTail_builtinR (x := w) pl.isList.typeIs slot_list_getitem.lookup
      (wpAny_getItem_list_neg (Q := fun r s' => r = w ∧ EP X pins σ Q r s') pl.isList (by omega) (by rw [List.size_toArray] <;> omega) (by omega) (by rw [hj]; simpa using ew) ⟨rfl, fin⟩) hs
theorem ix_tup : IxR X (rIxT X.K) := by
  intro value slice pins s σ H x y v u Q I rx ry h hs
  obtain ⟨p, xs, i, z, rfl, rfl, hq, he, q⟩ := h
  cases rx
  obtain ⟨t, rfl⟩ := ry
  obtain ⟨its, r, pl, hz⟩ := I.tuple hq
  obtain ⟨j, h1, h2, h3, h4, h5⟩ := atI_get he
  obtain ⟨w, ew, rw'⟩ := r.get h2
  have hl := r.length
  have hn := line63
  have fin : EP X pins σ Q w s := ⟨z, H, I, rw', q⟩
  exact subscriptTail_builtinR (x := w) pl.typeIs slot_tuple_getitem.lookup
    (getItem_tuple (j := j) (Q := fun r s' => r = w ∧ EP X pins σ Q r s') pl (by omega) (by omega) (by rw [List.size_toArray, ← hl]; exact h1) (by simpa using ew) ⟨rfl, fin⟩) hs
theorem ix_str : IxR X rIxS := by
  intro value slice pins s σ H x y v u Q I rx ry h hs
  obtain ⟨z, i, c, rfl, rfl, hz, he, q⟩ := h
  obtain ⟨t, rfl⟩ := rx
  obtain ⟨t', rfl⟩ := ry
  obtain ⟨j, h1, h2, h3, h4, h5⟩ := atI_get he
  have hl : z.cps.toList.length = z.length := by simp [Str.length]
  rw [hl] at h1 h4 h5
  have hn := line63
  exact tail_any (typeIs_str s z t) slot_str_getitem.lookup (getItem_str (c := c) (by
    have e1 : decide (i < -(2 ^ 63 : Int)) = false := decide_eq_false (by omega)
    have e2 : decide (i ≥ 2 ^ 63) = false := decide_eq_false (by omega)
    rw [e1, e2, Bool.or_false]) (by rw [h1]; simpa using h2) ⟨.str ⟨#[c]⟩, H, I.tok _, ⟨_, rfl⟩, q⟩) hs


theorem slice_bounds (lo hi : Option Int) (n : Nat) : (sliceBounds lo hi none n).1 = ((HT.sIx n 0 lo : Nat) : Int) ∧ (sliceBounds lo hi none n).2.1 = ((HT.sIx n n hi : Nat) : Int) ∧ (sliceBounds lo hi none n).2.2 = 1 := by
  refine ⟨?_, ?_, rfl⟩
  · cases lo with
    | none => simp [sliceBounds, HT.sIx]
    | some i =>
      simp only [sliceBounds, HT.sIx, Option.getD_none, show (1 : Int) > 0 by decide, if_true]
      by_cases h : i < 0
      · simp only [h, if_true] <;> omega
      · simp only [h, if_false] <;> omega
  · cases hi with
    | none => simp [sliceBounds, HT.sIx]
    | some i =>
      simp only [sliceBounds, HT.sIx, Option.getD_none, show (1 : Int) > 0 by decide, if_true]
      by_cases h : i < 0
      · simp only [h, if_true] <;> omega
      · simp only [h, if_false] <;> omega
theorem slicePick_cut (its : List Value) (lo hi : Option Int) : slicePick its.toArray lo hi none = ((its.drop (HT.sIx its.length 0 lo)).take (HT.sIx its.length its.length hi - HT.sIx its.length 0 lo)).toArray := by
  obtain ⟨h1, h2, h3⟩ := slice_bounds lo hi its.toArray.size
  unfold slicePick
  rw [h1, h2, h3]
  simp only [sliceRange_one, pick_run, List.size_toArray] <;> rfl
def rSlL (K : PySem.W.Frag) : V → Option Int → Option Int → Hp → VK → Prop := fun x lo hi H Q => ∃ a xs, x = .ref a ∧ SqL K H a xs ∧ ∀ p, H p = none → Q (.ref p) (upd H p (.lst (cutV xs lo hi)))
theorem sl_list : SlR X (rSlL X.K) := by
  intro pins s σ H x v vl vu lo hi sl Q I rx hs pl pu h
  obtain ⟨a, xs, rfl, hx, q⟩ := h
  cases rx
  obtain ⟨its, r, ht, hz⟩ := I.list hx
  have hlen := r.length
  refine ⟨"list", _, slot_list_getitem.lookup, ht.isList.typeIs, ?_⟩
  refine wpAny_getItem_list_slice ht.isList hs pl pu .none (by simp) ?_ (by rw [List.size_toArray] <;> omega)
  rw [slicePick_cut, ← hlen]
  refine ⟨.ref s.heap.objs.size, _, I.laid (t' := s.toks) (o := .lst (cutV xs lo hi)) (fun b ob q => Heap.get?_push_of_some _ q) (Nat.le_refl _) ?_, rfl, q _ (I.hok.fresh (Nat.le_refl _))⟩
  exact ⟨Nat.le_trans (cutV_length xs lo hi) hz, _, 0, (r.drop (HT.sIx xs.length 0 lo)).take (HT.sIx xs.length xs.length hi - HT.sIx xs.length 0 lo), Heap.get?_push_size _ rfl⟩


theorem call_len_seq : CallR X (.builtin "len") (fun xs H Q => ∃ p ys, xs = [.ref p] ∧ (SqL X.K H p ys ∨ SqT X.K H p ys) ∧ Q (.int ys.length) H) := by
  intro pins s σ H xs us Q I r h
  obtain ⟨p, ys, rfl, hq, q⟩ := h
  obtain ⟨u, rfl, rx⟩ := vals1 r
  cases rx
  have hn := line63
  rcases hq with hq | hq
  · obtain ⟨its, r', pl, hz⟩ := I.list hq
    have hlen := r'.length
    exact Calls.call_len_list pl.isList (by simp only [List.size_toArray] <;> omega) ⟨.int ys.length, H, I.tok _, ⟨s.toks + 1, by rw [List.size_toArray, hlen]⟩, q⟩
  · obtain ⟨its, r', pl, hz⟩ := I.tuple hq
    have hlen := r'.length
    exact len_tuple pl (by simp only [List.size_toArray] <;> omega) ⟨.int ys.length, H, I.tok _, ⟨s.toks + 1, by rw [List.size_toArray, hlen]⟩, q⟩
theorem call_len_str : CallR X (.builtin "len") (fun xs H Q => ∃ z, xs = [.str z] ∧ z.length ≤ sizeLine ∧ Q (.int z.length) H) := by
  intro pins s σ H xs us Q I r h
  obtain ⟨z, rfl, hz, q⟩ := h
  obtain ⟨u, rfl, t, rfl⟩ := vals1 r
  have hn := line63
  exact len_str (by omega) ⟨.int z.length, H, I.tok _, ⟨_, rfl⟩, q⟩

def tyV (K : PySem.W.Frag) (T : String) (x : V) (H : Hp) : Prop := match x with
  | .str _ => T = "str"
  | .int _ => T = "int"
  | .ref p => (T = "list" ∧ ∃ xs, SqL K H p xs) ∨ (T = "tuple" ∧ ∃ o, K.lookup p = some o ∧ o.cls = .type "tuple" ∧ o.dict = none) ∨
      (T = "dict" ∧ ((∃ kvs, H p = some (.dK kvs)) ∨ ∃ kvs, H p = some (.dT kvs))) ∨ (T = "set" ∧ ∃ S n, H p = some (.set S n))
  | _ => False
theorem tyV_is {pins : List (Addr × Obj)} {σ : St} {H : Hp} {s : Shared} {T : String} {x : V} {v : Value} (I : Inv X pins σ H s) (r : RelV x v) (ty : tyV X.K T x H) :
    s.TypeIs v T ∧ ∀ a, v = .ref a → ∃ ob, s.heap.get? a = some ob ∧ ob.dict = none := by
  cases x with
  | str z =>
    obtain ⟨t, rfl⟩ := r
    cases (show T = "str" from ty)
    exact ⟨typeIs_str s z t, fun _ e => nomatch e⟩
  | int i =>
    obtain ⟨t, rfl⟩ := r
    cases (show T = "int" from ty)
    exact ⟨typeIs_int s i t, fun _ e => nomatch e⟩
  | ref p =>
    cases r
    rcases ty with ⟨rfl, xs, hq⟩ | ⟨rfl, o, hk, hc, hd⟩ | ⟨rfl, hk⟩ | ⟨rfl, S, n, hk⟩
    · obtain ⟨its, _, pl, _⟩ := I.list hq
      refine ⟨pl.isList.typeIs, fun a e => ?_⟩
      cases e
      obtain ⟨o, n, e, c, hd, _⟩ := pl
      exact ⟨o, e, hd⟩
    · refine ⟨⟨o, I.kIn p o hk, hc⟩, fun a e => ?_⟩
      cases e
      exact ⟨o, I.kIn _ o hk, hd⟩
    · have z : ∃ o, s.heap.get? p = some o ∧ o.ExactDict := by
        rcases hk with ⟨kvs, hk⟩ | ⟨kvs, hk⟩
        · obtain ⟨_, _, _, _, o, _, _, e, ex, _⟩ := I.hok p _ hk
          exact ⟨o, e, ex⟩
        · obtain ⟨_, _, _, _, o, _, _, e, ex, _⟩ := I.hok p _ hk
          exact ⟨o, e, ex⟩
      obtain ⟨o, e, ex⟩ := z
      refine ⟨⟨o, e, ex.1⟩, fun a e2 => ?_⟩
      cases e2
      exact ⟨o, e, ex.2.1⟩
    · obtain ⟨o, _, _, _, e, ex, _⟩ := I.hok p _ hk
      refine ⟨⟨o, e, ex.1⟩, fun a e2 => ?_⟩
      cases e2
      exact ⟨o, e, ex.2.1⟩
  | _ => exact False.elim ty
def tBM (K : PySem.W.Frag) (T : String) (r : V → List V → Hp → VK → Prop) (to : TE) (t : TA) : TE := fun σ H Q => to σ H fun x H1 => tyV K T x H1 ∧ t σ H1 fun xs H2 => r x xs H2 Q
variable {o e : Expr} {es : List Expr} {to : TE} {t : TA} {name : Str} {apos cpos : Pos} {T id : String} {r : V → List V → Hp → VK → Prop}
theorem pe_bm (pa : PlainAttrs T) (slot : Slot T name id) (hty : typeOf (.builtin id) = pure (.type "method_descriptor")) (hm : MtR X id r) (ho : PE X o to) (ha : PA X (e :: es) t)
    (hbase : attributeBase o name X.env (eval o X.env) = eval o X.env := by rfl)
    (hfew : ((backTo cpos (starEach (e :: es) X.env)).all (fun x => !x.1) && (backToKw cpos (keywordEach [] X.env)).all (fun x => x.1.isSome)
      && decide ((e :: es).length + ([] : List Keyword).length + (if ([] : List Keyword).isEmpty then 0 else 1) < 30)) = true := by rfl)
    (hline : (apos.endLine == cpos.line) = true := by rfl) (hs : starEach (e :: es) X.env = (false, eval e X.env) :: starEach es X.env := by rfl) (hplain : (backTo cpos (starEach es X.env)).any (·.1) = false := by rfl) :
    PE X (.Call (.Attribute o name apos) (e :: es) [] cpos) (tBM X.K T r to t) := by
  intro pins s σ H Q I h
  refine wpAny_Call_method_late hbase hfew hline rfl (thn (ho pins s σ H _ I h) fun v s1 ⟨x, H1, I1, r1, ty, q1⟩ => ?_)
  obtain ⟨h1, h2⟩ := tyV_is I1 r1 ty
  refine ⟨T, id, pa, slot, hty, h1, h2, ?_⟩
  have hA := ha cpos pins s1 σ H1 _ I1 q1
  rw [hs] at hA ⊢
  refine Calls.callWith_builtin (by show (false || (backTo cpos (starEach es X.env)).any (·.1)) = false; rw [hplain] <;> rfl) (Calls.evalArgs_plain ?_)
  exact thn hA fun us s2 ⟨vs, H2, I2, r2, q2⟩ => hm pins s2 σ H2 x vs v us Q I2 r1 r2 q2
end
end L2

namespace L2
open PySem PySem.Spec PyProof.Rows

def MtM (X : Cx) (id : String) (r : V → List V → Hp → VK → Prop) : Prop :=
  ∀ (pins : List (Addr × Obj)) (s : Shared) (σ : St) (H : Hp) (x : V) (xs : List V) (v : Value) (us : List Value) (Q : VK), Inv X pins σ H s → RelV x v → Vals xs us → r x xs H Q →
    wpAny (model X.prog X.w) X.A (call (.builtin id) (v :: us)) (EP X pins σ Q) X.xe s

theorem Vals.one : ∀ {x : V} {us : List Value}, Vals [x] us → ∃ u, us = [u] ∧ RelV x u
  | _, _, .cons r .nil => ⟨_, rfl, r⟩

section
variable {X : Cx} {pins : List (Addr × Obj)} {σ : St} {H : Hp} {s : Shared} {l b : Addr} {xs ys zs : List V}

theorem Inv.lset {its its' : List Value} {n : Nat} {f : Array Value → Array Value} {t' : Nat} (I : Inv X pins σ H s) (hH : H l = some (.lst xs))
    (e : s.heap.get? l = some { cls := .type "list", data := .seq its.toArray n }) (hf : f its.toArray = its'.toArray) (hv : Vals ys its') (hz : ys.length ≤ sizeLine) :
    Inv X pins σ (upd H l (.lst ys)) { s with heap := s.heap.update l (Obj.mapSeq f), toks := t' } := by
  have q := PySem.IsL.update e f
  rw [hf] at q
  refine I.write (x := l) (e := l) (by rw [hH]; exact trivial) (.inl rfl) (fun b' u hb hu => (Heap.get?_update_other s.heap (Obj.mapSeq f) (Ne.symm hb)).trans hu) ⟨_, q⟩ ?_
  exact ⟨hz, its', _, hv, q⟩
theorem Inv.lnew {its : List Value} {t' : Nat} (I : Inv X pins σ H s) (hv : Vals ys its) (hz : ys.length ≤ sizeLine) :
    Inv X pins σ (upd H s.heap.objs.size (.lst ys)) { s with heap := s.heap.push { cls := .type "list", data := .seq its.toArray }, toks := t' } :=
  I.laid (fun _ _ q => Heap.get?_push_of_some _ q) (Nat.le_refl _) ⟨hz, its, 0, hv, Heap.get?_push_size _ rfl⟩
theorem Inv.fresh (I : Inv X pins σ H s) : H s.heap.objs.size = none := I.hok.fresh (Nat.le_refl _)
theorem Inv.lstM (I : Inv X pins σ H s) (hH : H l = some (.lst xs)) : xs.length ≤ sizeLine ∧ ∃ (its : List Value) (n : Nat), Vals xs its ∧ xs.length = its.length ∧ s.heap.get? l = some { cls := .type "list", data := .seq its.toArray n } := by
  obtain ⟨z, its, n, r, e⟩ := I.hok l _ hH
  exact ⟨z, its, n, r, r.length, e⟩

theorem notLongL {n : Nat} (h : n ≤ sizeLine) : Builtin.List.listTooLong n = false := by
  unfold Builtin.List.listTooLong
  exact decide_eq_false (by omega)
end

section
variable {X : Cx}

def rAppend : V → List V → Hp → VK → Prop := fun x vs H Q => ∃ l xs y, x = .ref l ∧ vs = [y] ∧ H l = some (.lst xs) ∧ xs.length < sizeLine ∧ Q .non (upd H l (.lst (xs ++ [y])))
theorem mt_append : MtM X "list.append" rAppend := by
  intro pins s σ H x vs v us Q I rx rv h
  obtain ⟨l, xs, y, rfl, rfl, hH, hz, q⟩ := h
  cases rx
  obtain ⟨u, rfl, ru⟩ := rv.one
  obtain ⟨z, its, n, r, hl, e⟩ := I.lstM hH
  refine call_meets F.slot_list_append ⟨_, e, rfl⟩ F.entry_list_append (F.args_list_append_2 _ _) (PySem.list_append l its.toArray n u (by rw [List.size_toArray]; omega)) ⟨e, ?_⟩
  refine ⟨.non, _, I.lset (its' := its ++ [u]) hH e (by simp) (r.append (.cons ru .nil)) ?_, rfl, q⟩
  rw [List.length_append, List.length_singleton]
  omega

def rExtend : V → List V → Hp → VK → Prop := fun x vs H Q => ∃ l b xs zs, x = .ref l ∧ vs = [.ref b] ∧ H l = some (.lst xs) ∧ H b = some (.lst zs) ∧ xs.length + zs.length ≤ sizeLine ∧ Q .non (upd H l (.lst (xs ++ zs)))
theorem mt_extend : MtM X "list.extend" rExtend := by
  intro pins s σ H x vs v us Q I rx rv h
  obtain ⟨l, b, xs, zs, rfl, rfl, hH, hB, hz, q⟩ := h
  cases rx
  obtain ⟨u, rfl, ru⟩ := rv.one
  cases ru
  obtain ⟨z, its, n, r, hl, e⟩ := I.lstM hH
  obtain ⟨z2, its2, n2, r2, hl2, e2⟩ := I.lstM hB
  have hsz : its.toArray.size + its2.toArray.size ≤ sizeLine := by rw [List.size_toArray, List.size_toArray]; omega
  have hlong : ¬ (!its.toArray.isEmpty && Builtin.List.listTooLong (its.toArray.size + its2.toArray.size)) = true := by
    rw [notLongL hsz, Bool.and_false]
    exact Bool.false_ne_true
  refine call_meets F.slot_list_extend ⟨_, e, rfl⟩ F.entry_list_extend (F.args_list_extend_2 _ _)
    (AutoSeq1.list_extend_list_list_0 l its.toArray n b its2.toArray n2 hlong (by rw [List.size_toArray]; omega) (by omega)) ⟨e, e2, ?_⟩
  refine ⟨.non, _, I.lset (its' := its ++ its2) hH e (by simp) (r.append r2) ?_, rfl, q⟩
  rw [List.length_append]
  omega





def rCat : R2 := fun x y H Q => ∃ l b xs zs, x = .ref l ∧ y = .ref b ∧ H l = some (.lst xs) ∧ H b = some (.lst zs) ∧ xs.length + zs.length ≤ sizeLine ∧ ∀ p, H p = none → Q (.ref p) (upd H p (.lst (xs ++ zs)))
theorem op_cat : OpR X (binaryOp .Add) rCat := by
  intro pins s σ H x y v u Q I rx ry h
  obtain ⟨l, b, xs, zs, rfl, rfl, hH, hB, hz, q⟩ := h
  cases rx
  cases ry
  obtain ⟨z, its, n, r, hl, e⟩ := I.lstM hH
  obtain ⟨z2, its2, n2, r2, hl2, e2⟩ := I.lstM hB
  refine PySem.P.add_list e e2 ?_ (by rw [List.size_toArray, List.size_toArray]; omega)
  have ea : its.toArray ++ its2.toArray = (its ++ its2).toArray := by simp
  rw [ea]
  exact ⟨.ref _, _, I.lnew (t' := s.toks) (r.append r2) (by rw [List.length_append]; omega), rfl, q _ I.fresh⟩

end

section
variable {prog : Program} {w : World} {A : Around} {E : Value → Shared → Prop} {s : Shared}
end

section
variable {X : Cx}
end
end L2

namespace L2
open PySem PySem.Spec PyProof.Rows

section
variable {κ : Type} [DecidableEq κ]



end




section
variable {P : Program} {w : World} {H : Hp} {h : Heap} {a : Addr}
end



section
variable {X : Cx} {pins : List (Addr × Obj)} {σ : St} {H : Hp} {s : Shared} {a : Addr} {y v : V} {u r : Value} {o : Option V} {A : Around} {E : Value → Shared → Prop}


end

section
variable {X : Cx} {pins : List (Addr × Obj)} {σ : St} {H : Hp} {s : Shared} {a : Addr} {kvs : List (Key × V)} {k : Key} {u : Value} {A : Around} {E : Value → Shared → Prop}
end





section
variable {X : Cx} {o i e value : Expr} {pos pos' tpos : Pos} {td ty tv : TE}
end


section
variable {X : Cx} {pos : Pos}
end






section
variable {X : Cx} {pins : List (Addr × Obj)} {σ : St} {H : Hp} {s : Shared} {a : Addr} {y d : V} {u r : Value} {o : Option V} {A : Around} {E : Value → Shared → Prop}
end

section
variable {X : Cx} {o e f : Expr} {apos cpos : Pos} {td ty tx : TE}
end

section
variable {X : Cx} {pins : List (Addr × Obj)} {σ : St} {H : Hp} {s : Shared} {a : Addr} {kvs : List (Key × V)} {A : Around} {E : Value → Shared → Prop}
end


section
variable {X : Cx} {pins : List (Addr × Obj)} {σ : St} {H : Hp} {s : Shared} {a : Addr} {y : V} {u : Value} {A : Around} {E : Value → Shared → Prop}
end
end L2

namespace Att
open PySem PySem.W PySem.Calls PyProof.Rows

theorem ints_of_wellAll {P : Params} {h : Heap} : ∀ (ns : List Int) (vs : List Value), WellAll P h vs (ns.map WData.int) → IntsAre vs ns := by
  intro ns
  induction ns with
  | nil =>
    intro vs w
    rw [List.map_nil] at w
    cases w
    exact .nil
  | cons n ns ih =>
    intro vs w
    rw [List.map_cons] at w
    cases w with
    | cons a b =>
      cases a
      exact .cons _ _ (ih _ b)

theorem script_of {l : OpenLaw} {n : Nat} (hn : l.most = some n) {P : Params} {h : Heap} {args : List WData} {vals : List Value}
    (hpre : l.row.toRowW.claim.pre args = true) (hwl : WellAll P h vals args) :
    ∃ a vs ns, vals = [Value.ref a] ∧ args = [WData.list (ns.map WData.int)] ∧ h.get? a = some { cls := .type "list", data := .seq vs.toArray } ∧ IntsAre vs ns ∧ ns.length ≤ n := by
  have hsh : WShape.hasAll [] args [.list .int] = true := (pre_splitW hpre).1
  have hc : l.pre.holds [] { args := args } = true := (pre_splitW hpre).2
  obtain ⟨d, r, rfl, h1, h2⟩ := hasAllW_cons hsh
  obtain rfl := hasAllW_nil h2
  obtain ⟨xs, rfl, h3⟩ := hasW_list h1
  obtain ⟨ns, rfl⟩ := items_int h3
  have hlen : ns.length ≤ n := by
    unfold OpenLaw.pre at hc
    have h4 : (WTm.not (.lt (.lit (.int (n : Int))) (.len (.arg 0)))).holds [] { args := [.list (ns.map .int)] } = true := by
      have h4 := (holds_andW hc).1
      rw [hn] at h4
      exact h4
    have h5 := condW_of h4 (w_not (w_lt w_lit (w_len_list (w_arg rfl))))
    rw [List.length_map] at h5
    refine Nat.le_of_not_lt fun q => ?_
    have q' : (n : Int) < ((ns.length : Nat) : Int) := by omega
    first
      | (rw [decide_eq_true q'] at h5; exact absurd h5 (by decide))
      | (simp at h5; omega)
  cases hwl with
  | cons w1 w2 =>
    cases w2
    cases w1 with
    | list ho hall => exact ⟨_, _, ns, rfl, rfl, ho, ints_of_wellAll ns _ hall, hlen⟩

theorem post_true (l : OpenLaw) (args : List WData) : l.row.toRowW.claim.post args (.bool true) args = true :=
  postW_of (r := l.row.toRowW) (X := (true == true))
    (show WShape.has [] (.bool true) .bool = true by first | rfl | decide | simp [WShape.has, WShape.arms, WShape.armsAll])
    (show (WTm.eq .res (.lit (.bool true))).value [] { args := args, res := some (.bool true), after := args } = some (.bool (true == true)) from w_eq_bool (w_res rfl) w_lit) rfl


theorem attach_call {l : OpenLaw} {n : Nat} {q : Program} {loose : List Str} {XP : (Str → Option Value) → Heap → Prop} {YP : World → Heap → Prop} {d : DefRec}
    (hn : l.most = some n) (hdf : d.params.defaults = [])
    (call : ∀ (w : World) (s₀ s₁ : Shared) (mg mb : Str → Option Value) (fa : Addr) (o : Obj) (pm cd doc : Value) (a : Addr) (vs : List Value) (ns : List Int),
      Ground q loose [] XP w s₀ mg mb s₁.heap → YP w s₁.heap →
      s₁.heap.get? fa = some o → o.data = .func (docDef d.name d.params d.body d.scope pm cd doc) → s₁.heap.CodeRec cd d.name → mg d.name = some (.ref fa) →
      s₁.heap.get? a = some { cls := .type "list", data := .seq vs.toArray } → IntsAre vs ns → ns.length ≤ n → s₁.gens = #[] →
      codeAny (model l.prog w) callerA (.call (.ref fa) ⟨[.ref a], []⟩) (fun r s' => r = .ok (.ret (.bool true)) ∧ OldK s₁.heap s'.heap ∧ s'.os = s₁.os ∧ AllBare s'.gens) s₁) :
    WalkO q loose XP YP l.row.toRowW d [] (fun f vs => PySem.call f vs) := by
  intro w s₀ s₁ mg mb G Y fa o pm cd doc dV kV ho hd hcd hD hmg hg args vals as hpre hlay hrd hwl hlo
  obtain rfl : dV = .none := Dflts.none hD hdf
  obtain rfl : kV = .none := Dflts.noKw hD
  obtain ⟨a, vs, ns, rfl, rfl, hobj, hints, hlen⟩ := script_of hn hpre hwl
  refine enter_call (codeAny_mono (call w s₀ s₁ mg mb fa o pm cd doc a vs ns G Y ho (fd_plain hd) hcd hmg hobj hints hlen hg) fun r s' hq => ?_)
  obtain ⟨rfl, h2, h3, h4⟩ := hq
  exact ⟨.inl ⟨.bool true, .bool true, [], rfl, fun _ => rfl, .bool true, post_true l _, fun _ => ⟨List.Pairwise.nil, fun _ hm => (nomatch hm)⟩⟩, h2, h3, h4⟩


section
variable {prog : Program} {w : World} {A : Around} {E : Value → Shared → Prop} {s : Shared} {K : Frag}





def ledger (h : Heap) (L d : Addr) : List (Addr × Obj) := (List.range h.objs.size).filterMap fun a => if a = L ∨ a = d then none else (h.get? a).map fun o => (a, o)

end
end Att

namespace L2
open PySem PySem.Spec PyProof.Rows

theorem vals_ints : ∀ {vs : List Value} {ns : List Int}, IntsAre vs ns → Vals (ns.map V.int) vs
  | _, _, .nil => .nil
  | _, _, .cons n t h => .cons ⟨t, rfl⟩ (vals_ints h)

def Only (H : Hp) : Prop := ∀ b, H b = none ∨ ∃ o xs, H b = some (.frz o (.lst xs))

theorem law_call {P : Program} {w : World} {K : PySem.W.Frag} {mg mb : Str → Option Value} {CX : CXT} {k : Nat} {fa a : Addr} {fd : FuncData} {x : Str} {sp : Sp} {s₁ : Shared} {vs : List Value} {ns : List Int}
    (KX : K.In s₁.heap) (hns : s₁.heap.Ns mainGlobals mg) (hb : s₁.heap.Ns builtinsNs mb) (hbb : ∀ x : Str, x ≠ "__name__" → mb x = bootBuiltins x) (hlim : s₁.heap.NoLimit) (hg : s₁.gens = #[])
    (ha : s₁.heap.get? a = some { cls := .type "list", data := .seq vs.toArray }) (hi : IntsAre vs ns) (hl : ns.length ≤ sizeLine) (hr : Room k callerA)
    (F : ∀ base : Heap, K.In base → base.Ns mainGlobals mg → FnOk P w K mg base CX k fa fd [x] sp) (hbind : ∀ (s : Shared) (u : Value), BindsTo s fd ⟨[u], []⟩ [(x, u)])
    (hsp : ∀ H : Hp, Only H → SqL K H a (ns.map V.int) → sp [.ref a] H (fun v _ => v = .bl true) fun _ _ _ => False)
    (hCX : ∀ H e s', CX [] H s₁ (fun _ _ _ => False) e s' → False) :
    codeAny (model P w) callerA (.call (.ref fa) ⟨[.ref a], []⟩) (fun r s' => r = .ok (.ret (.bool true)) ∧ OldK s₁.heap s'.heap ∧ s'.os = s₁.os ∧ AllBare s'.gens) s₁ := by
  have rv := vals_ints hi
  have lenV := hi.length
  -- from an abstract heap in which nothing but the script may be tracked
  have core : ∀ H : Hp, Only H → SqL K H a (ns.map V.int) → HOk P w H s₁.heap → (∀ b, H b ≠ none → b = a) → (H a ≠ none → K.lookup a = none) →
      codeAny (model P w) callerA (.call (.ref fa) ⟨[.ref a], []⟩) (fun r s' => r = .ok (.ret (.bool true)) ∧ OldK s₁.heap s'.heap ∧ s'.os = s₁.os ∧ AllBare s'.gens) s₁ := by
    intro H hO hS hok hA hK
    have base_of : ∀ {b : Addr} {o : Obj}, s₁.heap.get? b = some o → H b = none → (hidT s₁.heap H).get? b = some o := fun e n => hidT_get e n
    have noA : ∀ {b : Addr} {o : Obj} {es : Array DictEntry} {ep : Nat}, s₁.heap.get? b = some o → o.data = .dict es ep → H b = none := fun {b o es ep} e d => by
      cases q : H b with
      | none => rfl
      | some u =>
        have e' : b = a := hA b (by rw [q]; simp)
        subst e'
        rw [ha] at e; cases e
        have d' : Data.seq vs.toArray _ = Data.dict es ep := d
        cases d'
    have nsK : ∀ {b : Addr} {m : Str → Option Value}, s₁.heap.Ns b m → (hidT s₁.heap H).Ns b m := fun {b m} ⟨o, es, ep, e, d, r⟩ => ⟨o, es, ep, base_of e (noA e d), d, r⟩
    have hKb : K.In (hidT s₁.heap H) := fun b o e => base_of (KX b o e) (by
      cases q : H b with
      | none => rfl
      | some u =>
        have e' : b = a := hA b (by rw [q]; simp)
        subst e'
        rw [hK (by rw [q]; simp)] at e; cases e)
    have hM : Mod K mg (hidT s₁.heap H) := ⟨hKb, nsK hns, ⟨mb, nsK hb, hbb⟩, let ⟨mc, h1, h2⟩ := hlim; ⟨mc, nsK h1, h2⟩⟩
    have e0 : Env0 P w K mg (hidT s₁.heap H) callerA [] s₁ H := ⟨rfl, hM, fun b o e => of_hidT e, Nat.le_of_eq (hidT_size _ _), trivial, fun b hb => absurd (show b ∈ ([] : List Addr) from hb) (by simp), hok, .of_eq hg⟩
    refine codeAny_mono ((F _ hKb (nsK hns)).run callerA [] s₁ H ⟨[.ref a], []⟩ [.ref a] [.ref a] _ _ hr e0 (hbind s₁ (.ref a)) (.cons rfl .nil) (hsp H hO hS)) fun r s' h => ?_
    cases r with
    | error e => exact (hCX H e s' h).elim
    | ok fl =>
      cases fl with
      | next => exact False.elim h
      | brk => exact False.elim h
      | cont => exact False.elim h
      | ret u =>
        obtain ⟨v, H', os, bare, un, hok', r', q⟩ := h
        have q' : v = .bl true := q
        subst q'
        obtain rfl : u = Value.bool true := r'
        refine ⟨rfl, OldK.of_keep fun b o e => ?_, os, bare⟩
        cases q : H b with
        | none => exact un.keep b o e q (by intro z; exact absurd (show b ∈ ([] : List Addr) from z) (by simp)) (by simp)
        | some u =>
          rcases hO b with z | ⟨ob, xs, z⟩
          · rw [q] at z; cases z
          · have z2 := un.frzs b ob _ z
            obtain ⟨e1, _⟩ := hok b _ z
            obtain ⟨e2, _⟩ := hok' b _ z2
            rw [e] at e1; cases e1
            exact e2
  cases hk : K.lookup a with
  | some o =>
    -- the script is one of the module's own objects
    have e := KX a o hk
    rw [ha] at e
    cases e
    refine core (fun _ => none) (fun _ => .inl rfl) (.inr ⟨_, vs.toArray, _, hk, rfl, rfl, rfl, by rw [List.size_toArray, lenV]; exact hl, by simpa using rv⟩) (fun b u z => by have z' : (none : Option HO) = some u := z; cases z') (fun b z => absurd rfl z) fun z => absurd rfl z
  | none =>
    refine core (fun b => if b = a then some (.frz { cls := .type "list", data := .seq vs.toArray } (.lst (ns.map V.int))) else none) (fun b => ?_) (.inl (.inr ⟨{ cls := .type "list", data := .seq vs.toArray }, if_pos rfl⟩)) (fun b u z => ?_) (fun b z => ?_) fun _ => hk
    · by_cases hb : b = a
      · exact .inr ⟨_, _, if_pos hb⟩
      · exact .inl (if_neg hb)
    · by_cases hb : b = a
      · have z' := (if_pos hb).symm.trans z
        cases z'
        subst hb
        exact ⟨ha, by rw [List.length_map]; exact hl, vs, _, rv, ha⟩
      · have z' := (if_neg hb).symm.trans z
        cases z'
    · by_cases hb : b = a
      · exact hb
      · exact absurd (if_neg hb) z
end L2

namespace L2
open PySem PySem.Spec PyProof.Rows


theorem walk_of {l : PySem.W.OpenLaw} {n k : Nat} {q : Program} {loose : List Str} {XP : (Str → Option Value) → Heap → Prop} {YP : World → Heap → Prop} {d : DefRec} {K : Params → PySem.W.Frag} {CX : World → CXT} {sp : World → Sp} {x : Str}
    (hn : l.most = some n) (hn2 : n ≤ sizeLine) (hdf : d.params.defaults = []) (hr : Room k callerA)
    (hY : ∀ (w : World) (h : Heap), YP w h → (K w.params).In h)
    (F : ∀ (w : World) (mg : Str → Option Value) (fa : Addr) (h : Heap), (K w.params).In h → h.Ns mainGlobals mg → mg d.name = some (.ref fa) →
      ∃ fd : FuncData, (∀ (s : Shared) (u : Value), BindsTo s fd ⟨[u], []⟩ [(x, u)]) ∧
        ∀ base : Heap, (K w.params).In base → base.Ns mainGlobals mg → FnOk l.prog w (K w.params) mg base (CX w) k fa fd [x] (sp w))
    (hsp : ∀ (w : World) (H : Hp) (a : Addr) (ns : List Int), ns.length ≤ n → Only H → SqL (K w.params) H a (ns.map V.int) → sp w [.ref a] H (fun v _ => v = .bl true) fun _ _ _ => False)
    (hCX : ∀ (w : World) (H : Hp) (s : Shared) (e : Value) (s' : Shared), CX w [] H s (fun _ _ _ => False) e s' → False) :
    PySem.W.WalkO q loose XP YP l.row.toRowW d [] (fun f vs => PySem.call f vs) := by
  refine Att.attach_call hn hdf fun w s₀ s₁ mg mb fa o pm cd doc a vs ns G Y ho hd hcd hmg hobj hints hlen hg => ?_
  have KX := hY w _ Y
  obtain ⟨fd, hb, hF⟩ := F w mg fa _ KX G.T.g hmg
  exact law_call KX G.T.g G.T.b G.T.builtins G.T.nolimit hg hobj hints (Nat.le_trans hlen hn2) hr hF hb (fun H hO hS => hsp w H a ns hlen hO hS) fun H e s' => hCX w H s₁ e s'
end L2


namespace L2
open PySem PySem.Spec PyProof.Rows

def defArgs (s : Stmt) : Arguments := match s with
  | .FunctionDef _ a _ _ _ _ _ _ _ _ => a
  | _ => { posonlyargs := [], args := [], vararg := none, kwonlyargs := [], kw_defaults := [], kwarg := none, defaults := [] }
def defBody (s : Stmt) : List Stmt := match s with
  | .FunctionDef _ _ b _ _ _ _ _ _ _ => b
  | _ => []
def defScope (s : Stmt) : Scope := match s with
  | .FunctionDef _ _ _ _ _ _ sc _ _ _ => sc
  | _ => { kind := .function, names := [], isGenerator := false, isCoroutine := false }

abbrev CX0 : CXT := fun _ _ _ _ _ _ => False
abbrev E0 : XK := fun _ _ _ => False
theorem pass0 {X : Cx} : Passes CX0 X E0 := fun _ _ _ _ _ _ _ h => h.elim

structure Fun (K : PySem.W.Frag) (x qual : Str) (st : Stmt) (f : Addr) (fd : FuncData) : Prop where
  ex : ∃ (oc : Value) (od : Option Addr) (kV doc pm : Value) (an : Option Addr) (cdv ct : Value) (osl : Array (Option Value)),
    fd = PySem.W.fnOf x qual (defArgs st) (defBody st) (defScope st) .none kV doc pm an cdv ct ∧ K.lookup f = some ⟨oc, od, .func fd, osl⟩ ∧ PySem.W.codeIn K cdv qual = true
  kp : PySem.W.keepIn K (.ref f) = true
section
variable {P : Program} {w : World} {K : PySem.W.Frag} {mg : Str → Option Value} {base : Heap}
theorem Fun.ok {x qual : Str} {st : Stmt} {f : Addr} {fd : FuncData} {N ps : List Str} {k : Nat} {sp : Sp} (F : Fun K x qual st f fd) (S : FnScope N ps (defScope st)) (len : ∀ vs H Q E, sp vs H Q E → vs.length = ps.length)
    (hbody : ∀ (cdv : Value) (A : Around) (outer : List Env) (s : Shared) (H : Hp) (vs : List V) (Q : VK) (E : XK), Room k (A.deeper (envOfC qual (defScope st) s.heap.objs.size f cdv)) → sp vs H Q E →
      ∃ t, PSs (cxOf CX0 P w K mg base N qual (defScope st) f cdv A outer s H E).nox (defBody st) t ∧ t { nx := fun _ H' => Q .non H', rt := Q } (start N vs) H) : FnOk P w K mg base CX0 (k + 1) f fd ps sp := by
  obtain ⟨oc, od, kV, doc, pm, an, cdv, ct, osl, rfl, lk, hcd⟩ := F.ex
  refine fn_of lk hcd S len fun A outer s H vs Q E hr hsp => ?_
  obtain ⟨t, h, q⟩ := hbody cdv A outer s H vs Q E hr hsp
  exact ⟨t, h.nox, q⟩
theorem Fun.binds {x qual : Str} {st : Stmt} {f : Addr} {fd : FuncData} {ps : List Str} (F : Fun K x qual st f fd)
    (h : ∀ (kV doc pm : Value) (an : Option Addr) (cdv ct : Value) (us : List Value), us.length = ps.length → bindArgs (PySem.W.fnOf x qual (defArgs st) (defBody st) (defScope st) .none kV doc pm an cdv ct) ⟨us, []⟩ = pure (ps.zip us)) : Binds K fd ps [] := by
  obtain ⟨oc, od, kV, doc, pm, an, cdv, ct, osl, rfl, lk, hcd⟩ := F.ex
  exact .all (h kV doc pm an cdv ct)
theorem fun_mk {x qual : Str} {st : Stmt} {f : Addr} {oc : Value} {od an : Option Addr} {osl : Array (Option Value)} {kV doc pm cdv ct : Value} (l : K.lookup f = some ⟨oc, od, .func (PySem.W.fnOf x qual (defArgs st) (defBody st) (defScope st) .none kV doc pm an cdv ct), osl⟩)
    (c : PySem.W.codeIn K cdv qual = true) (k : PySem.W.keepIn K (.ref f) = true) : Fun K x qual st f (PySem.W.fnOf x qual (defArgs st) (defBody st) (defScope st) .none kV doc pm an cdv ct) := ⟨⟨oc, od, kV, doc, pm, an, cdv, ct, osl, rfl, l, c⟩, k⟩
end
theorem small1000 {n : Nat} (h : n ≤ 1000) : n < sizeLine := Nat.lt_of_le_of_lt h (by decide)

section
variable {X : Cx}
theorem pv (i : Nat) {x : Str} {pos : Pos} (hN : X.N[i]? = some x := by rfl) (hv : Vis X.env.scope x := by first | exact Or.inl rfl | exact Or.inr (Or.inl rfl) | exact Or.inr (Or.inr rfl)) (hd : (x == ("__debug__" : Str)) = false := by decide)
    (hcd : (x == ("__classdict__" : Str)) = false := by decide) : PE X (.Name x pos) (tVar i) := pe_var hN hv hd hcd
end

theorem iteF {A B : Prop} (h : B) : if false = true then A else B := by
  rw [if_neg Bool.false_ne_true]
  exact h
theorem iteT {A B : Prop} (h : A) : if true = true then A else B := by
  rw [if_pos rfl]
  exact h
theorem ite2 {c A B : Prop} [Decidable c] (h1 : c → A) (h2 : ¬ c → B) : if c then A else B := by
  by_cases h : c
  · rw [if_pos h]
    exact h1 h
  · rw [if_neg h]
    exact h2 h
theorem iteNS {c A B : Prop} [Decidable c] (hc : c) (h : B) : if (!decide c) = true then A else B := by
  rw [decide_eq_true hc]
  exact iteF h

def Same (H H' : Hp) : Prop := ∀ b o, H b = some o → H' b = some o
theorem Same.refl (H : Hp) : Same H H := fun _ _ h => h
theorem Same.trans {H H1 H2 : Hp} (a : Same H H1) (b : Same H1 H2) : Same H H2 := fun c o h => b c o (a c o h)
theorem Same.free {H H' : Hp} (e : Same H H') {l : Addr} (h : H' l = Option.none) : H l = Option.none := by
  cases q : H l with
  | none => rfl
  | some o =>
    rw [e l o q] at h
    cases h
theorem Same.seq {K : PySem.W.Frag} {H H' : Hp} {a : Addr} {xs : List V} (e : Same H H') (h : SqL K H a xs) : SqL K H' a xs := by
  rcases h with (h | ⟨o, h⟩) | h
  · exact .inl (.inl (e _ _ h))
  · exact .inl (.inr ⟨o, e _ _ h⟩)
  · exact .inr h

section
variable {κ : Type} [DecidableEq κ]
end
end L2



namespace Sh
def rangeI (n : Nat) : List Int := (List.range n).map fun (i : Nat) => (i : Int)
theorem rangeI_len (n : Nat) : (rangeI n).length = n := by simp [rangeI]
theorem mem_rangeI {n : Nat} {z : Int} : z ∈ rangeI n ↔ 0 ≤ z ∧ z < n := by
  unfold rangeI
  rw [List.mem_map]
  constructor
  · rintro ⟨i, h, rfl⟩
    have := List.mem_range.mp h
    omega
  · intro h
    exact ⟨z.toNat, List.mem_range.mpr (by omega), by omega⟩
theorem rangeI_succ (n : Nat) : rangeI (n + 1) = rangeI n ++ [(n : Int)] := by
  unfold rangeI
  rw [List.range_succ, List.map_append]
  rfl
def Good (many : Nat) (ns : List Int) : Prop := (∀ b ∈ ns, 0 ≤ b ∧ b < (many : Int)) ∧ ns.length ≤ 9
end Sh
namespace Sh
def split (ws : List (List Int)) (a b c : Int) : Bool := ws.any fun w => decide (a ∈ w) && (decide (c ∈ w) && !decide (b ∈ w))
structure Turn (many : Nat) (p : Int × Int) : Prop where
  a0 : 0 ≤ p.1
  a1 : p.1 < many
  b0 : 0 ≤ p.2
  b1 : p.2 < many
  ne : p.1 ≠ p.2
end Sh
namespace L2
open PySem PySem.Spec PyProof.Rows

def blkCx (X : Cx) (sc : Scope) (N' : List Str) (cl : List (Str × Addr)) (s : Shared) (H : Hp) (fp : List Addr) : Cx :=
  { X with N := N', s₀ := s, H₀ := H, env := compEnvC sc cl s.heap.objs.size X.env, outer := X.stack, ex := fp, fn := fun _ => false, pn := [], xe := fun _ _ => False }
structure BlkSc (N : List Str) (osc : Scope) (own : List Str) (cap : List (Str × Nat)) (sc : Scope) : Prop where
  kind : sc.kind = .function
  nocell : ∀ y ∈ sc.names, y.2 ≠ .cell
  names : ∀ y ∈ sc.names, y.2 = .local → sc.names.lookup y.1 = some .local
  free : ∀ y ∈ sc.names, y.2 = .free → osc.names.lookup y.1 = some .cell ∨ osc.names.lookup y.1 = some .free
  cap : ∀ p ∈ cap, N[p.2]? = some p.1 ∧ sc.names.lookup p.1 = some .free
def capSt (own : List Str) (cap : List (Str × Nat)) (σ : St) : St := own.map (fun _ => none) ++ cap.map fun p => (σ[p.2]?).join

theorem clo_go (env : Env) : ∀ (l : List (Str × NameKind)) (acc : List (Str × Addr)), (∀ y ∈ l, y.2 = .free → ∃ c, env.cells.lookup y.1 = some c) →
    (∀ x c, acc.lookup x = some c → env.cells.lookup x = some c) →
    ∃ cl, (forIn l acc (fun (p : Str × NameKind) r => if (p.2 == NameKind.free) = true then (cellOf env p.1 >>= fun a => pure (ForInStep.yield ((p.1, a) :: r))) else pure (ForInStep.yield r)) : Sem (List (Str × Addr))) = pure cl ∧
      (∀ x c, cl.lookup x = some c → env.cells.lookup x = some c) ∧ (∀ x, (acc.lookup x).isSome = true → (cl.lookup x).isSome = true) ∧ ∀ y ∈ l, y.2 = .free → (cl.lookup y.1).isSome = true := by
  intro l
  induction l with
  | nil => intro acc _ ha; exact ⟨acc, rfl, ha, fun _ h => h, fun _ h => nomatch h⟩
  | cons y r ih =>
    intro acc hl ha
    obtain ⟨n, k⟩ := y
    by_cases hk : k = .free
    · subst hk
      obtain ⟨c, hc⟩ := hl (n, .free) List.mem_cons_self rfl
      have hc : env.cells.lookup n = some c := hc
      obtain ⟨cl, e, h1, h2, h3⟩ := ih ((n, c) :: acc) (fun y hy => hl y (List.mem_cons_of_mem _ hy)) (fun x d hx => by
        rw [List.lookup_cons] at hx
        by_cases hxn : (x == n) = true
        · rw [hxn] at hx; cases hx
          have : x = n := by simpa using hxn
          rw [this]; exact hc
        · rw [Bool.not_eq_true] at hxn
          rw [hxn] at hx; exact ha x d hx)
      have e0 : cellOf env n = pure c := by unfold cellOf; rw [hc]
      refine ⟨cl, ?_, h1, fun x hx => h2 x ?_, fun z hz hzf => ?_⟩
      · rw [List.forIn_cons]
        simp only [beq_self_eq_true, if_true, e0]
        exact e
      · rw [List.lookup_cons]
        by_cases hxn : (x == n) = true
        · rw [hxn]; rfl
        · rw [Bool.not_eq_true] at hxn; rw [hxn]; exact hx
      · rcases List.mem_cons.mp hz with rfl | hz
        · exact h2 n (by rw [List.lookup_cons]; simp)
        · exact h3 z hz hzf
    · obtain ⟨cl, e, h1, h2, h3⟩ := ih acc (fun y hy => hl y (List.mem_cons_of_mem _ hy)) ha
      have hb : (k == NameKind.free) = false := by simpa using hk
      refine ⟨cl, ?_, h1, h2, fun z hz hzf => ?_⟩
      · rw [List.forIn_cons]
        simp only [hb, Bool.false_eq_true, if_false]
        exact e
      · rcases List.mem_cons.mp hz with rfl | hz
        · exact absurd hzf hk
        · exact h3 z hz hzf
theorem clo_of {env : Env} {sc : Scope} (h : ∀ y ∈ sc.names, y.2 = .free → ∃ c, env.cells.lookup y.1 = some c) :
    ∃ cl, closureFor sc env = pure cl ∧ (∀ x c, cl.lookup x = some c → env.cells.lookup x = some c) ∧ ∀ y ∈ sc.names, y.2 = .free → ∃ c, cl.lookup y.1 = some c := by
  obtain ⟨cl, e, h1, _, h3⟩ := clo_go env sc.names [] h (fun _ _ q => nomatch q)
  refine ⟨cl, ?_, h1, fun y hy hf => Option.isSome_iff_exists.mp (h3 y hy hf)⟩
  have e2 := congrArg (fun m : Sem (List (Str × Addr)) => m >>= fun cs => pure cs) e
  exact e2

theorem look_relabel {env : Env} : ∀ {names : List (Str × NameKind)} {x : Str} {k : NameKind},
    (names.map fun (n, k) => if (k == NameKind.free && env.scope.kind == .function && env.kindOf n == some .cell) then (n, NameKind.cell) else (n, k)).lookup x = some k →
    ∃ k0, names.lookup x = some k0 ∧ (k0 = k ∨ (k0 = .free ∧ k = .cell))
  | [], _, _, h => by simp at h
  | (n, k0) :: r, x, k, h => by
    have ih := @look_relabel env r x k
    rw [List.map_cons] at h
    rw [List.lookup_cons]
    by_cases hc : (k0 == NameKind.free && env.scope.kind == .function && env.kindOf n == some .cell) = true
    · have hf : k0 = .free := by
        rw [Bool.and_eq_true, Bool.and_eq_true] at hc
        simpa using hc.1.1
      have h' : List.lookup x ((n, NameKind.cell) :: r.map fun (n, k) => if (k == NameKind.free && env.scope.kind == .function && env.kindOf n == some .cell) then (n, NameKind.cell) else (n, k)) = some k := by
        simpa only [hc, if_true] using h
      rw [List.lookup_cons] at h'
      cases hx : x == n with
      | true => rw [hx] at h'; cases h'; exact ⟨k0, rfl, .inr ⟨hf, rfl⟩⟩
      | false => rw [hx] at h'; exact ih h'
    · have h' : List.lookup x ((n, k0) :: r.map fun (n, k) => if (k == NameKind.free && env.scope.kind == .function && env.kindOf n == some .cell) then (n, NameKind.cell) else (n, k)) = some k := by
        simpa only [hc, Bool.false_eq_true, if_false] using h
      rw [List.lookup_cons] at h'
      cases hx : x == n with
      | true => rw [hx] at h'; cases h'; exact ⟨k0, rfl, .inl rfl⟩
      | false => rw [hx] at h'; exact ih h'
theorem look_relabel_free {env : Env} {names : List (Str × NameKind)} {x : Str} (h : names.lookup x = some .free) :
    (names.map fun (n, k) => if (k == NameKind.free && env.scope.kind == .function && env.kindOf n == some .cell) then (n, NameKind.cell) else (n, k)).lookup x = some .cell ∨
    (names.map fun (n, k) => if (k == NameKind.free && env.scope.kind == .function && env.kindOf n == some .cell) then (n, NameKind.cell) else (n, k)).lookup x = some .free := by
  induction names with
  | nil => simp at h
  | cons y r ih =>
    obtain ⟨n, k0⟩ := y
    rw [List.lookup_cons] at h
    rw [List.map_cons]
    cases hx : x == n with
    | true =>
      rw [hx] at h; cases h
      by_cases hc : (NameKind.free == NameKind.free && env.scope.kind == .function && env.kindOf n == some .cell) = true
      · refine .inl ?_
        simp only [hc, if_true]
        rw [List.lookup_cons, hx]
      · refine .inr ?_
        simp only [hc, Bool.false_eq_true, if_false]
        rw [List.lookup_cons, hx]
    | false =>
      rw [hx] at h
      by_cases hc : (k0 == NameKind.free && env.scope.kind == .function && env.kindOf n == some .cell) = true
      · simp only [hc, if_true]
        rw [List.lookup_cons, hx]
        exact ih h
      · simp only [hc, Bool.false_eq_true, if_false]
        rw [List.lookup_cons, hx]
        exact ih h
theorem mem_of_look {names : List (Str × NameKind)} {x : Str} {k : NameKind} (h : names.lookup x = some k) : (x, k) ∈ names := PySem.mem_of_lookup h

section
variable {X : Cx} {pins : List (Addr × Obj)} {σ : St} {H : Hp} {s : Shared}

theorem blk_inv {own : List Str} {cap : List (Str × Nat)} {sc : Scope} {cl : List (Str × Addr)} {fp : List Addr} {h' : Heap} {tk : Nat} (I : Inv X pins σ H s) (hf : ∀ b ∈ fp, FpOk X pins H b) (hfo : ∀ b ∈ fp, ∃ o, s.heap.get? b = some o)
    (S : BlkSc X.N X.env.scope own cap sc) (h1 : ∀ x c, cl.lookup x = some c → X.env.cells.lookup x = some c) (h2 : ∀ y ∈ sc.names, y.2 = .free → ∃ c, cl.lookup y.1 = some c)
    (hn : ∃ m, h'.Ns s.heap.objs.size m) (hk : ∀ b o, s.heap.get? b = some o → h'.get? b = some o) :
    Inv (blkCx X sc (own ++ cap.map (·.1)) cl s H fp) [] (capSt own cap σ) H { s with heap := h', toks := tk } := by
  have hlt : ∀ b ∈ fp, b < s.heap.objs.size := fun b hb => let ⟨o, e⟩ := hfo b hb; Heap.lt_size e
  refine ⟨⟨I.mod, S.kind, I.ok.glob, I.ok.blt, Nat.le_refl _, fun x y c e1 e2 => I.ok.inj x y c (h1 x c e1) (h1 y c e2), fun x hx => ?_, fun x c z => absurd z Bool.false_ne_true, I.ok.hd, I.ok.frames, .inl rfl, fun b hb => ⟨Nat.ne_of_lt (hlt b hb), fun x c e => (hf b hb).2.2.2.2.1 x c (h1 x c e)⟩,
      I.bs, Nat.le_trans I.ok.bsz I.sz, fun b o e hb => ?_, fun b hb hz => ?_, I.stack, I.stkFree⟩,
    rfl, I.bare, Un.kept hk, ?_, fun x c e => ?_, I.hok.fresh (Nat.le_refl _), fun x c e => I.freeC x c (h1 x c e), fun p hp => absurd (show p ∈ ([] : List (Addr × Obj)) from hp) (by simp), I.hok.kept hk, ?_⟩
  · have hx' : (relabel sc X.env).names.lookup x = some .cell ∨ (relabel sc X.env).names.lookup x = some .free := hx
    have : (x, NameKind.free) ∈ sc.names := by
      rcases hx' with q | q
      · obtain ⟨k0, a, b | ⟨b, _⟩⟩ := look_relabel q
        · subst b; exact absurd rfl (S.nocell _ (mem_of_look a))
        · subst b; exact mem_of_look a
      · obtain ⟨k0, a, b | ⟨_, b⟩⟩ := look_relabel q
        · subst b; exact mem_of_look a
        · cases b
    exact h2 _ this rfl
  · rcases (hf b hb).2.2.2.1 with z | z
    · exact I.ok.noex b o e z
    · exact absurd (Nat.lt_of_lt_of_le (Heap.lt_size e) (Nat.le_trans I.ok.bsz z)) (Nat.lt_irrefl _)
  · rcases List.mem_cons.mp (I.stkSub b hz) with z | z
    · exact (hf b hb).2.1 z
    · exact (hf b hb).2.2.1 z
  · obtain ⟨m', hm'⟩ := hn
    refine ⟨m', hm', fun i x v e1 e2 _ => ?_⟩
    have e1 : (own ++ cap.map (·.1))[i]? = some x := e1
    have e2 : (own.map (fun _ => (none : Option V)) ++ cap.map fun p => (σ[p.2]?).join)[i]? = some (some v) := e2
    by_cases hi : i < own.length
    · rw [List.getElem?_append_left (by simpa using hi), List.getElem?_map] at e2
      cases q : own[i]? with
      | none => rw [q] at e2; cases e2
      | some a => rw [q] at e2; cases e2
    · rw [List.getElem?_append_right (by simpa using hi), List.getElem?_map, List.length_map] at e2
      rw [List.getElem?_append_right (by simpa using hi), List.getElem?_map] at e1
      cases q : cap[i - own.length]? with
      | none => rw [q] at e2; cases e2
      | some p =>
        rw [q] at e1 e2
        obtain ⟨y, j⟩ := p
        have ex : y = x := Option.some.inj e1
        subst ex
        have hj : σ[j]? = some (some v) := by
          have : (σ[j]?).join = some v := Option.some.inj e2
          cases z : σ[j]? with
          | none => rw [z] at this; cases this
          | some a => rw [z] at this; rw [show a = some v from this]
        obtain ⟨c1, c2⟩ := S.cap _ (List.mem_of_getElem? q)
        have c1 : X.N[j]? = some y := c1
        have c2 : sc.names.lookup y = some .free := c2
        obtain ⟨m, hm, hl⟩ := I.loc
        have hos := S.free _ (mem_of_look c2) rfl
        have hos : X.env.scope.names.lookup y = some .cell ∨ X.env.scope.names.lookup y = some .free := hos
        obtain ⟨u, r, lk⟩ := hl j y v c1 hj (hos.elim (fun z => .inr (.inl z)) fun z => .inr (.inr z))
        refine ⟨u, r, .inr ⟨look_relabel_free c2, ?_⟩⟩
        obtain ⟨c, hc⟩ := h2 _ (mem_of_look c2) rfl
        rcases lk with ⟨k, _⟩ | ⟨_, c', e, z⟩
        · have k : X.env.scope.names.lookup y = some .local := k
          rcases hos with w' | w' <;> rw [k] at w' <;> cases w'
        · have : c' = c := Option.some.inj (e.symm.trans (h1 y c hc))
          subst this
          obtain ⟨o, ho, hd⟩ := z
          exact ⟨c', hc, o, hk _ _ ho, hd⟩
  · obtain ⟨v, o, ho, hd⟩ := I.cell x c (h1 x c e)
    exact ⟨v, o, hk _ _ ho, hd⟩
  · show (capSt own cap σ).length = (own ++ cap.map (·.1)).length
    unfold capSt
    simp

theorem blk_back {sc : Scope} {N' : List Str} {cl : List (Str × Addr)} {fp : List Addr} {σ' : St} {H' : Hp} {s' : Shared} {h' : Heap} {pins' : List (Addr × Obj)} (I : Inv X pins σ H s) (hf : ∀ b ∈ fp, FpOk X pins H b)
    (J : Inv (blkCx X sc N' cl s H fp) pins' σ' H' s') (hs : Heap.SameBut s.heap.objs.size s'.heap h') : Inv X pins σ H' { s' with heap := h' } := by
  have u := J.base
  have fr : H' s.heap.objs.size = none := J.free
  have ne : ∀ b o, s.heap.get? b = some o → b ≠ s.heap.objs.size := fun b o e => Nat.ne_of_lt (Heap.lt_size e)
  refine I.call' (s' := { s' with heap := h' }) (ch := fp) J.os ⟨fun b o e n hb hx => (hs.2 b (ne b o e)).trans (u.keep b o e n hb hx), fun b o e n hb hx => ?_, u.free, fun b o e hx => ?_, u.tups, u.frzs, u.tbls⟩ (fun a o e => ?_) J.bare
    fun b hb => ⟨(hf b hb).2.2.2.1, (hf b hb).2.1, (hf b hb).2.2.2.2.1, (hf b hb).2.2.2.2.2⟩
  · obtain ⟨sl, q⟩ := u.slot b o e n hb hx
    exact ⟨sl, (hs.2 b (ne b o e)).trans q⟩
  · obtain ⟨o', q⟩ := u.there b o e hx
    exact ⟨o', (hs.2 b (ne b o e)).trans q⟩
  · refine (J.hok a o e).stay (fun b w' hb q => (hs.2 b ?_).trans q) (fun _ q => q) fun _ _ q => q
    rintro rfl
    rcases hb with rfl | hb
    · rw [fr] at e; cases e
    · rw [fr] at hb; cases hb
end

def PTs (X : Cx) (ifs : List Expr) (t : TT) : Prop :=
  ∀ (pins : List (Addr × Obj)) (s : Shared) (σ : St) (H : Hp) (Q : Bool → Hp → Prop), Inv X pins σ H s → t σ H Q →
    wpAny (model X.prog X.w) X.A (forIn ifs true fun c r => if r = true then do let ok ← isTrue c X.env (eval c X.env); pure (ForInStep.yield ok) else pure (ForInStep.yield r)) (TP X pins σ Q) X.xe s
theorem pts_nil {X : Cx} : PTs X [] (fun _ H Q => Q true H) := fun _ _ _ H _ I h => wpAny_tests_nil ⟨H, I, h⟩
theorem pts_one {X : Cx} {c : Expr} {t : TT} (h : PT X c t) : PTs X [c] t := fun pins s σ H Q I q => wpAny_tests_one (h pins s σ H Q I q)

def cLoop (J : It) (l : Addr) (g : TG) (tt : TT) (te : TE) (σ0 : St) (H : Hp) (Q : Hp → Prop) : Prop :=
  ∃ W : Nat → Nat → List V → St → Hp → Prop, (∃ m, W 0 m [] σ0 H) ∧ ∀ i m ys σ H, W i m ys σ H →
    (J.stop i H ∧ Q H) ∨ (J.go i H ∧ ∃ N : List V → St → Hp → Prop, (∀ zs σ' H', N zs σ' H' → ∃ m', m' < m ∧ W (i + 1) m' zs σ' H') ∧ ∀ x H1, J.yld i H x H1 → g x σ H1 fun σ2 H2 => tt σ2 H2 fun b H3 =>
      if b = true then te σ2 H3 fun y H4 => H4 l = some (.lst ys) ∧ ys.length < sizeLine ∧ N (ys ++ [y]) σ2 (upd H4 l (.lst (ys ++ [y])))
      else N ys σ2 H3)
def tComp (wi : TI) (own : List Str) (cap : List (Str × Nat)) (g : TG) (tt : TT) (te : TE) : TE := fun σ H Q =>
  wi σ H fun J H1 => ∀ l, H1 l = none → cLoop J l g tt te (capSt own cap σ) (upd H1 l (.lst [])) fun H2 => Q (.ref l) H2

section
variable {X : Cx} {pins : List (Addr × Obj)} {σ : St} {H : Hp} {s : Shared} {elt tg iter : Expr} {ifs : List Expr} {sc : Scope} {pos : Pos} {own : List Str} {cap : List (Str × Nat)} {wi : TI} {g : TG} {tt : TT} {te : TE}

theorem blk_loop {N' : List Str} {cl : List (Str × Addr)} {s0 : Shared} {H0 : Hp} {fp : List Addr} {it l : Addr} {tn : Nat → Heap → Prop} {J : It} {R : Result → Shared → Prop} {Q : Hp → Prop} {σ0 : St}
    (hc : X.calm = true) (T : Turn X.prog X.w X.K tg J fp it tn) (hfp : ∀ {H' : Hp}, (∀ b ∈ fp, H' b = none) → ∀ b ∈ fp, FpOk (blkCx X sc N' cl s0 H0 fp) [] H' b)
    (hg : PG (blkCx X sc N' cl s0 H0 fp) tg g) (ht : PTs (blkCx X sc N' cl s0 H0 fp) ifs tt) (he : PE (blkCx X sc N' cl s0 H0 fp) elt te)
    (I : Inv (blkCx X sc N' cl s0 H0 fp) [] σ0 H s) (st : tn 0 s.heap) (fr : ∀ b ∈ fp, H b = none) (h : cLoop J l g tt te σ0 H Q)
    (hR : ∀ σ' H' s', Inv (blkCx X sc N' cl s0 H0 fp) [] σ' H' s' → Q H' → R (.ok .next) s') :
    codeAny (model X.prog X.w) X.A (.compLoop (.ListComp elt [⟨tg, iter, ifs, 0⟩] sc pos) 0 (.ref it) (.ref l) (blkCx X sc N' cl s0 H0 fp).env) R s := by
  obtain ⟨W, ⟨m0, w0⟩, turn⟩ := h
  refine codeAny_loop rfl (fun n s' => ∃ i ys σ' H', Inv (blkCx X sc N' cl s0 H0 fp) [] σ' H' s' ∧ tn i s'.heap ∧ (∀ b ∈ fp, H' b = none) ∧ W i n ys σ' H') (fun n s1 hI => ?_) m0 ⟨0, [], σ0, H, I, st, fr, w0⟩
  obtain ⟨i, ys, σ1, H1, I1, st1, fr1, w1⟩ := hI
  show wpAny _ X.A ((compTurn (.ListComp elt [⟨tg, iter, ifs, 0⟩] sc pos) 0 (.ref it) (.ref l) (blkCx X sc N' cl s0 H0 fp).env).onRaise (fun x => do noteFrame x (blkCx X sc N' cl s0 H0 fp).env; theTreesLotGoes x)) _ _ s1
  refine wpAny_noted ?_
  rw [compTurn_list]
  refine wpAny_bind (wpAny_standAt (wpAny_bind ?_))
  have nope : ∀ {α : Type} {t : Sem α} {Q : α → Shared → Prop} {E : Value → Shared → Prop} {z : Shared}, wpAny (model X.prog X.w) X.A t Q (fun _ _ => False) z → wpAny (model X.prog X.w) X.A t Q E z := fun q => wpAny_mono q (fun _ _ r => r) fun _ _ f => f.elim
  rcases turn i n ys σ1 H1 w1 with ⟨stop, q⟩ | ⟨go, N, hN, step⟩
  · refine nope (thn (T.done (blkCx X sc N' cl s0 H0 fp) rfl rfl rfl hc i [] s1 σ1 H1 _ I1 (hfp fr1) st1 stop) fun r s2 ⟨hr, I2⟩ => ?_)
    subst hr
    exact wpAny_pure (hR _ _ _ I2 q)
  · refine nope (thn (T.item (blkCx X sc N' cl s0 H0 fp) rfl rfl rfl hc i [] s1 σ1 H1 _ I1 (hfp fr1) st1 go) fun r s2 ⟨u, hr, h2⟩ => ?_)
    subst hr
    refine wpAny_bind (nope (thn h2 fun _ s3 ⟨x, H3, I3, r3, y3, st3, fr3⟩ => ?_))
    have I3' := I3.pinned (hfp fr3) (T.obj _ _ st3)
    refine wpAny_bind (nope (thn (hg _ s3 σ1 H3 x u _ I3' r3 (step x H3 y3)) fun _ s4 ⟨σ4, H4, I4, q4⟩ => ?_))
    refine wpAny_bind (nope (thn (ht _ s4 σ4 H4 _ I4 q4) fun ok s5 ⟨H5, I5, q5⟩ => ?_))
    have back : ∀ {σ6 : St} {H6 : Hp} {s6 : Shared} {zs : List V}, Inv (blkCx X sc N' cl s0 H0 fp) ([] ++ pinsAt fp s3.heap) σ6 H6 s6 → N zs σ6 H6 →
        ∃ m, m < n ∧ ∃ i ys σ' H', Inv (blkCx X sc N' cl s0 H0 fp) [] σ' H' s6 ∧ tn i s6.heap ∧ (∀ b ∈ fp, H' b = none) ∧ W i m ys σ' H' := fun {σ6 H6 s6 zs} I6 n6 => by
      obtain ⟨n', hm, w6⟩ := hN zs σ6 H6 n6
      refine ⟨n', hm, i + 1, zs, σ6, H6, I6.unpinned, T.keep _ _ _ st3 fun b hb o e => (I6.pin (b, o) (List.mem_append_right _ (List.mem_append_right _ (mem_pinsAt hb e)))).1, fun b hb => ?_, w6⟩
      obtain ⟨o, e, d⟩ := T.obj _ _ st3 b hb
      exact (I6.pin (b, o) (List.mem_append_right _ (List.mem_append_right _ (mem_pinsAt hb e)))).2.1
    cases ok with
    | false =>
      exact wpAny_pure ⟨rfl, back I5 q5⟩
    | true =>
      refine wpAny_bind (wpAny_bind (nope (thn (he _ s5 σ4 H5 _ I5 q5) fun v s6 ⟨y, H6, I6, r6, q6⟩ => ?_)))
      obtain ⟨hl, hz, w6⟩ := q6
      refine wpAny_bind (nope (thn (mt_append (X := blkCx X sc N' cl s0 H0 fp) _ s6 σ4 H6 (.ref l) [y] (.ref l) [v] (fun z H7 => z = .non ∧ H7 = upd H6 l (.lst (ys ++ [y]))) I6 rfl (.cons r6 .nil) ⟨l, ys, y, rfl, rfl, hl, hz, rfl, rfl⟩) fun z s7 ⟨_, H7, I7, _, _, e7⟩ => ?_))
      subst e7
      exact wpAny_pure (wpAny_pure ⟨rfl, back I7 w6⟩)

theorem blk_run {Q : Hp → Prop} {J : It} {fp : List Addr} {it : Addr} {tn : Nat → Heap → Prop} {E : Value → Shared → Prop} {RR : Addr → Addr → Result → Shared → Prop} {osc : Scope} (hc : X.calm = true) (hos : X.env.scope = osc) (S : BlkSc X.N osc own cap sc)
    (hg : ∀ cl s H fp, PG (blkCx X sc (own ++ cap.map (·.1)) cl s H fp) tg g) (ht : ∀ cl s H fp, PTs (blkCx X sc (own ++ cap.map (·.1)) cl s H fp) ifs tt) (he : ∀ cl s H fp, PE (blkCx X sc (own ++ cap.map (·.1)) cl s H fp) elt te)
    (I : Inv X pins σ H s) (T : Turn X.prog X.w X.K tg J fp it tn) (st : tn 0 s.heap) (hf : ∀ b ∈ fp, FpOk X pins H b)
    {cl : List (Str × Addr)} (h1 : ∀ x c, cl.lookup x = some c → X.env.cells.lookup x = some c) (h2 : ∀ y ∈ sc.names, y.2 = .free → ∃ c, cl.lookup y.1 = some c)
    (h : cLoop J s.heap.objs.size g tt te (capSt own cap σ) (upd H s.heap.objs.size (.lst [])) Q)
    (hR : ∀ (s3 : Shared) (H' : Hp) (s' : Shared), (∀ b o, s.heap.get? b = some o → s3.heap.get? b = some o) → (∀ h', Heap.SameBut s3.heap.objs.size s'.heap h' → Inv X pins σ H' { s' with heap := h' }) → (∃ m, s'.heap.Ns s3.heap.objs.size m) → H' s3.heap.objs.size = none →
      X.env.locals < s3.heap.objs.size → (∀ x c, X.env.cells.lookup x = some c → c < s3.heap.objs.size) → (∀ p ∈ X.pn ++ pins, p.1 < s3.heap.objs.size) → X.s₀.heap.objs.size ≤ s3.heap.objs.size → Q H' → RR s.heap.objs.size s3.heap.objs.size (.ok .next) s') :
    wpAny (model X.prog X.w) X.A (newList []) (fun acc s3 => ∃ a, acc = .ref a ∧ wpAny (model X.prog X.w) X.A (newFunctionEnv sc X.env.globals cl [] X.env.qual none .none (some X.env)) (fun cenv s4 =>
      codeAny (model X.prog X.w) X.A (.compStart (.ListComp elt [⟨tg, iter, ifs, 0⟩] sc pos) 0 (.ref it) (.ref a) { cenv with scope := relabel sc X.env }) (RR a cenv.locals) s4) E s3) E s := by
  subst hos
  refine wpAny_newList ?_
  have I3 : Inv X pins σ (upd H s.heap.objs.size (.lst [])) { s with heap := s.heap.push { cls := .type "list", data := .seq ([] : List Value).toArray }, toks := s.toks } := I.lnew (t' := s.toks) .nil (Nat.zero_le _)
  have ob : ∀ b ∈ fp, ∃ o, s.heap.get? b = some o := fun b hb => let ⟨o, e, _⟩ := T.obj _ _ st b hb; ⟨o, e⟩
  have nb : ∀ b ∈ fp, b ≠ s.heap.objs.size := fun b hb => let ⟨o, e⟩ := ob b hb; Nat.ne_of_lt (Heap.lt_size e)
  have f3 : ∀ b ∈ fp, FpOk X pins (upd H s.heap.objs.size (.lst [])) b := fun b hb => ⟨by rw [upd_ne (nb b hb)]; exact (hf b hb).1, (hf b hb).2⟩
  have k3 : ∀ b o, s.heap.get? b = some o → (s.heap.push { cls := .type "list", data := .seq ([] : List Value).toArray }).get? b = some o := fun b o e => Heap.get?_push_of_some _ e
  generalize hS3 : ({ s with heap := s.heap.push { cls := .type "list", data := .seq ([] : List Value).toArray }, toks := s.toks } : Shared) = s3 at I3
  have e3 : s3.heap = s.heap.push { cls := .type "list", data := .seq ([] : List Value).toArray } := by rw [← hS3]
  have ob3 : ∀ b ∈ fp, ∃ o, s3.heap.get? b = some o := fun b hb => let ⟨o, e⟩ := ob b hb; ⟨o, by rw [e3]; exact k3 b o e⟩
  have lt3 : ∀ b ∈ fp, b < s3.heap.objs.size := fun b hb => let ⟨o, e⟩ := ob3 b hb; Heap.lt_size e
  refine ⟨_, rfl, ?_⟩
  refine wpAny_newFunctionEnv S.nocell (by intro y hy; simp at hy) (fun h' hn hsb => ?_) S.kind
  have k4 : ∀ b o, s3.heap.get? b = some o → h'.get? b = some o := fun b o e => hsb.extBut b o (Nat.ne_of_lt (Heap.lt_size e)) (Heap.get?_push_of_some _ e)
  have J4 : Inv (blkCx X sc (own ++ cap.map (·.1)) cl s3 (upd H s.heap.objs.size (.lst [])) fp) [] (capSt own cap σ) (upd H s.heap.objs.size (.lst [])) { s3 with heap := h', toks := s3.toks + ([] : List (Str × Value)).length } :=
    blk_inv I3 f3 ob3 S h1 h2 ⟨_, hn⟩ k4
  have st4 : tn 0 h' := T.keep _ _ _ st fun b _ o e => k4 b o (by rw [e3]; exact k3 b o e)
  have loop : codeAny (model X.prog X.w) X.A (.compLoop (.ListComp elt [⟨tg, iter, ifs, 0⟩] sc pos) 0 (.ref it) (.ref s.heap.objs.size) (blkCx X sc (own ++ cap.map (·.1)) cl s3 (upd H s.heap.objs.size (.lst [])) fp).env)
      (RR s.heap.objs.size s3.heap.objs.size) { s3 with heap := h', toks := s3.toks + ([] : List (Str × Value)).length } := by
    refine blk_loop hc T (fun {H'} hn b hb => ⟨hn b hb, Nat.ne_of_lt (lt3 b hb), fun z => ?_, .inl hb, fun x c e => (f3 b hb).2.2.2.2.1 x c (h1 x c e), fun p hp => absurd (show p ∈ ([] : List (Addr × Obj)) from hp) (by simp)⟩) (hg _ _ _ _) (ht _ _ _ _) (he _ _ _ _) J4 st4
      (fun b hb => (f3 b hb).1) h fun σ' H' s' J q => ?_
    · rcases List.mem_cons.mp (I3.stkSub b z) with z | z
      · exact (f3 b hb).2.1 z
      · exact (f3 b hb).2.2.1 z
    · obtain ⟨m, hm, _⟩ := J.loc
      exact hR s3 H' s' (fun b o e => by rw [e3]; exact k3 b o e) (fun h'' hs'' => blk_back I3 f3 J hs'') ⟨m, hm⟩ J.free I3.lt (fun x c e => let ⟨v, o, ho, _⟩ := I3.cell x c e; Heap.lt_size ho) (fun p hp => Heap.lt_size (I3.pin p hp).1) I3.sz q
  exact codeAny_compStart_list loop (T.self _ _ _ _ _ st4 loop)

theorem pe_comp {osc : Scope} (hc : X.calm = true) (hos : X.env.scope = osc) (S : BlkSc X.N osc own cap sc) (hi : PI X tg iter wi)
    (hg : ∀ cl s H fp, PG (blkCx X sc (own ++ cap.map (·.1)) cl s H fp) tg g) (ht : ∀ cl s H fp, PTs (blkCx X sc (own ++ cap.map (·.1)) cl s H fp) ifs tt) (he : ∀ cl s H fp, PE (blkCx X sc (own ++ cap.map (·.1)) cl s H fp) elt te)
    (hs : ∀ x, foldedSetIterable iter X.env x = pure x := by intro _; rfl) : PE X (.ListComp elt [⟨tg, iter, ifs, 0⟩] sc pos) (tComp wi own cap g tt te) := by
  intro pins s σ H Q I h
  obtain ⟨cl, hcl, h1, h2⟩ := clo_of (env := X.env) (sc := sc) fun y hy hf => I.ok.has y.1 (by have := S.free y hy hf; rw [← hos] at this; exact this)
  rw [eval_ListComp]
  refine wpAny_comprehension_free (use := none) rfl hs hcl S.kind S.names (thn (hi pins s σ H _ I h) fun xv s1 q1 => thn q1 fun itv s2 q2 => ?_)
  obtain ⟨it, fp, tn, J, H2, e, I2, T, st2, f2, q⟩ := q2
  subst e
  refine thn (blk_run (iter := iter) (pos := pos) (RR := fun a C r s' => compPost (model X.prog X.w) X.A X.xe none (EP X pins σ Q) (.ref a) C r s') hc hos S hg ht he I2 T st2 f2 h1 h2 (q _ I2.fresh) fun s3 H' s' _ back hm _ _ _ _ _ q' => ?_) fun acc s3 q3 => ?_
  · obtain ⟨m, hm⟩ := hm
    exact ⟨m, hm, fun h'' hs'' => ⟨.ref s2.heap.objs.size, H', back h'' hs'', rfl, q'⟩⟩
  · obtain ⟨a, rfl, q3⟩ := q3
    exact q3
def sComp (i : Nat) (wi : TI) (own : List Str) (cap : List (Str × Nat)) (g : TG) (tt : TT) (te : TE) : TS := fun D σ H => tComp wi own cap g tt te σ H fun v H1 => D.nx (σ.set i (some v)) H1
theorem ps_comp {osc : Scope} {i : Nat} {x : Str} {px spos : Pos} (hc : X.calm = true) (hos : X.env.scope = osc) (S : BlkSc X.N osc own cap sc) (hN : X.N.Nodup) (hx : X.N[i]? = some x) (hl : X.env.scope.names.lookup x = some .local)
    (hsw : swapsWith (.ListComp elt [⟨tg, iter, ifs, 0⟩] sc pos) (some (.Name x px)) spos.line X.env = pure true) (hi : PI X tg iter wi)
    (hg : ∀ cl s H fp, PG (blkCx X sc (own ++ cap.map (·.1)) cl s H fp) tg g) (ht : ∀ cl s H fp, PTs (blkCx X sc (own ++ cap.map (·.1)) cl s H fp) ifs tt) (he : ∀ cl s H fp, PE (blkCx X sc (own ++ cap.map (·.1)) cl s H fp) elt te)
    (hs : ∀ x, foldedSetIterable iter X.env x = pure x := by intro _; rfl) : PS X (.Assign [.Name x px] (.ListComp elt [⟨tg, iter, ifs, 0⟩] sc pos) spos) (sComp i wi own cap g tt te) := by
  intro pins s σ H D I h
  obtain ⟨cl, hcl, h1, h2⟩ := clo_of (env := X.env) (sc := sc) fun y hy hf => I.ok.has y.1 (by have := S.free y hy hf; rw [← hos] at this; exact this)
  rw [exec_Assign_Name_used _ _ _ _ hsw]
  refine wpAny_bind (wpAny_standAt (wpAny_bind ?_))
  show wpAny _ _ (do let _ ← comprehension (.ListComp elt [⟨tg, iter, ifs, 0⟩] sc pos) sc X.env _ (newList []) false (eval iter X.env) (some (assign (.Name x px) X.env))) _ _ s
  refine wpAny_bind (wpAny_mono (wpAny_comprehension_free (use := some (assign (.Name x px) X.env)) (Q := fun _ s' => SP X pins D .next s') rfl hs hcl S.kind S.names
    (thn (hi pins s σ H _ I h) fun xv s1 q1 => thn q1 fun itv s2 q2 => ?_)) (fun _ s' hq => wpAny_pure (wpAny_pure hq)) fun _ _ e => e)
  obtain ⟨it, fp, tn, J, H2, e, I2, T, st2, f2, q⟩ := q2
  subst e
  refine thn (blk_run (iter := iter) (pos := pos) (RR := fun a C r s' => compPost (model X.prog X.w) X.A X.xe (some (assign (.Name x px) X.env)) (fun _ s' => SP X pins D .next s') (.ref a) C r s') hc hos S hg ht he I2 T st2 f2 h1 h2 (q _ I2.fresh)
    fun s3 H' s' _ back hm fC hL hCl hP hz q' => ?_) fun acc s3 q3 => ?_
  · obtain ⟨m, hm⟩ := hm
    have I' : Inv X pins σ H' { s' with heap := s'.heap } := back s'.heap (.refl ..)
    refine wpAny_assign_Name (store_ok2 I' hN hx (.inl hl) (v := .ref s2.heap.objs.size) rfl (fun s'' I'' ⟨a, hsb, ha⟩ => ?_) (.inr hl))
    have na : a ≠ s3.heap.objs.size := by
      rcases ha with rfl | ha
      · exact Nat.ne_of_lt hL
      · exact Nat.ne_of_lt (hCl _ _ ha)
    refine ⟨m, hm.sameBut hsb (Ne.symm na), fun h'' hs'' => ⟨_, H', ?_, q'⟩⟩
    exact I''.turned (t' := s''.toks) (fun b o hb e => (hs''.2 b hb).trans e) fC (Nat.ne_of_gt hL) (.inr hz) (fun y c e => Nat.ne_of_lt (hCl y c e)) (fun p hp => Nat.ne_of_lt (hP p hp))
  · obtain ⟨a, rfl, q3⟩ := q3
    exact q3
end


section
variable {X : Cx}
end

section
variable {l : Addr} {g : TG} {tt : TT} {te : TE} {σ0 : St} {H : Hp} {Q : Hp → Prop}
theorem c_list {K : PySem.W.Frag} {a : Addr} {xs : List V} (Pv : Nat → List V → St → Hp → Prop) (h0 : Pv 0 [] σ0 H) (hl : ∀ i ys σ H, i ≤ xs.length → Pv i ys σ H → SqL K H a xs)
    (hs : ∀ i x ys σ H, xs[i]? = some x → Pv i ys σ H → g x σ H fun σ2 H2 => tt σ2 H2 fun b H3 =>
      if b = true then te σ2 H3 fun y H4 => H4 l = some (.lst ys) ∧ ys.length < sizeLine ∧ Pv (i + 1) (ys ++ [y]) σ2 (upd H4 l (.lst (ys ++ [y]))) else Pv (i + 1) ys σ2 H3)
    (hd : ∀ ys σ H, Pv xs.length ys σ H → Q H) : cLoop (Itl K a) l g tt te σ0 H Q := by
  refine ⟨fun i m ys σ H => m = xs.length - i ∧ i ≤ xs.length ∧ Pv i ys σ H, ⟨xs.length, by simp, Nat.zero_le _, h0⟩, ?_⟩
  rintro i m ys σ H ⟨rfl, hi, p⟩
  have q := hl i ys σ H hi p
  by_cases hlt : i < xs.length
  · refine .inr ⟨⟨xs, xs[i], q, by simp [hlt]⟩, Pv (i + 1), fun zs σ' H' z => ⟨xs.length - (i + 1), by omega, rfl, hlt, z⟩, fun x H' y => ?_⟩
    obtain ⟨e, y⟩ := y
    subst e
    exact hs i x ys σ _ (y xs q) p
  · have e : i = xs.length := by omega
    subst e
    exact .inl ⟨⟨xs, q, Nat.le_refl _⟩, hd ys σ H p⟩
end
section
variable {X : Cx} {tg : Expr}
end
end L2
namespace L2
open PySem PySem.Spec PyProof.Rows

mutual
def Dt (K : PySem.W.Frag) (H : Hp) : PyData → V → Prop
  | .none, v => v = .non
  | .bool b, v => v = .bl b
  | .int i, v => v = .int i
  | .str x, v => v = .str x
  | .list ds, v => ∃ a xs, v = .ref a ∧ SqL K H a xs ∧ DtAll K H ds xs
  | .tuple ds, v => ∃ a xs, v = .ref a ∧ SqT K H a xs ∧ DtAll K H ds xs
  | .dict _, _ => False
def DtAll (K : PySem.W.Frag) (H : Hp) : List PyData → List V → Prop
  | [], vs => vs = []
  | d :: ds, vs => ∃ v r, vs = v :: r ∧ Dt K H d v ∧ DtAll K H ds r
end

theorem Same.tupq {K : PySem.W.Frag} {H H' : Hp} {a : Addr} {xs : List V} (e : Same H H') (h : SqT K H a xs) : SqT K H' a xs := by
  rcases h with (h | ⟨o, h⟩) | h
  · exact .inl (.inl (e _ _ h))
  · exact .inl (.inr ⟨o, e _ _ h⟩)
  · exact .inr h
theorem Same.put {H0 H : Hp} {l : Addr} {o : HO} (s : Same H0 H) (h : H0 l = none) : Same H0 (upd H l o) := fun b u q => by
  rw [upd_ne (ne_of_none q h)]
  exact s b u q
theorem Same.new {H : Hp} {l : Addr} {o : HO} (h : H l = none) : Same H (upd H l o) := (Same.refl H).put h

mutual
theorem Dt.same {K : PySem.W.Frag} {H H' : Hp} (e : Same H H') : ∀ (d : PyData) (v : V), Dt K H d v → Dt K H' d v
  | .none, _, h => by unfold Dt at h ⊢; exact h
  | .bool _, _, h => by unfold Dt at h ⊢; exact h
  | .int _, _, h => by unfold Dt at h ⊢; exact h
  | .str _, _, h => by unfold Dt at h ⊢; exact h
  | .list ds, _, h => by
    unfold Dt at h ⊢
    obtain ⟨a, xs, e1, e2, e3⟩ := h
    exact ⟨a, xs, e1, e.seq e2, DtAll.same e ds xs e3⟩
  | .tuple ds, _, h => by
    unfold Dt at h ⊢
    obtain ⟨a, xs, e1, e2, e3⟩ := h
    exact ⟨a, xs, e1, e.tupq e2, DtAll.same e ds xs e3⟩
  | .dict _, _, h => by unfold Dt at h; exact h.elim
theorem DtAll.same {K : PySem.W.Frag} {H H' : Hp} (e : Same H H') : ∀ (ds : List PyData) (vs : List V), DtAll K H ds vs → DtAll K H' ds vs
  | [], _, h => by unfold DtAll at h ⊢; exact h
  | d :: ds, _, h => by
    unfold DtAll at h ⊢
    obtain ⟨v, r, e1, e2, e3⟩ := h
    exact ⟨v, r, e1, Dt.same e d v e2, DtAll.same e ds r e3⟩
end

section
variable {X : Cx} {pins : List (Addr × Obj)} {σ : St} {H : Hp} {s : Shared}
mutual
theorem Inv.reads (I : Inv X pins σ H s) : ∀ (d : PyData) (v : V) (u : Value), Dt X.K H d v → RelV v u → ∃ as, Reads s.heap u d as
  | .none, v, u, h, r => by
    unfold Dt at h; subst h; cases (show u = Value.none from r); exact ⟨_, .none⟩
  | .bool b, v, u, h, r => by
    unfold Dt at h; subst h; cases (show u = Value.bool b from r); exact ⟨_, .bool b⟩
  | .int i, v, u, h, r => by
    unfold Dt at h; subst h; obtain ⟨t, rfl⟩ := (show ∃ t, u = Value.int i t from r); exact ⟨_, .int i t⟩
  | .str x, v, u, h, r => by
    unfold Dt at h; subst h; obtain ⟨t, rfl⟩ := (show ∃ t, u = Value.str x t from r); exact ⟨_, .str x t⟩
  | .list ds, v, u, h, r => by
    unfold Dt at h
    obtain ⟨a, xs, rfl, hq, hs⟩ := h
    cases (show u = Value.ref a from r)
    obtain ⟨its, rv, pl, _⟩ := I.list hq
    obtain ⟨as, ra⟩ := Inv.readsAll I ds xs its hs rv
    obtain ⟨o, n, h1, h2, _, h3⟩ := pl
    exact ⟨_, .list h1 h2 h3 (by simpa using ra)⟩
  | .tuple ds, v, u, h, r => by
    unfold Dt at h
    obtain ⟨a, xs, rfl, hq, hs⟩ := h
    cases (show u = Value.ref a from r)
    obtain ⟨its, rv, pl, _⟩ := I.tuple hq
    obtain ⟨as, ra⟩ := Inv.readsAll I ds xs its hs rv
    obtain ⟨o, h1, h2, n, h3⟩ := pl
    exact ⟨_, .tuple h1 h2 h3 (by simpa using ra)⟩
  | .dict _, v, u, h, r => by unfold Dt at h; exact h.elim
theorem Inv.readsAll (I : Inv X pins σ H s) : ∀ (ds : List PyData) (vs : List V) (us : List Value), DtAll X.K H ds vs → Vals vs us → ∃ as, ReadsAll s.heap us ds as
  | [], vs, us, h, r => by
    unfold DtAll at h; subst h; cases r; exact ⟨_, .nil⟩
  | d :: ds, vs, us, h, r => by
    unfold DtAll at h
    obtain ⟨v, q, rfl, h1, h2⟩ := h
    cases r with
    | cons r1 r2 =>
      obtain ⟨as, ra⟩ := Inv.reads I d v _ h1 r1
      obtain ⟨bs, rb⟩ := Inv.readsAll I ds q _ h2 r2
      exact ⟨_, .cons ra rb⟩
end
def rEqD (K : PySem.W.Frag) (neg : Bool) : R2 := fun x y H Q => ∃ d e, Dt K H d x ∧ Dt K H e y ∧ SeqAt.shaped d = true ∧ SeqAt.shaped e = true ∧ Q (.bl (if neg then !PyData.eqv d e else PyData.eqv d e)) H
theorem op_eqD (hu : X.A.units + 64 < cLine) : OpR X (compareOp .Eq) (rEqD X.K false) := by
  intro pins s σ H x y v u Q I rx ry h
  obtain ⟨d, e, h1, h2, s1, s2, q⟩ := h
  obtain ⟨as, ra⟩ := I.reads d x v h1 rx
  obtain ⟨bs, rb⟩ := I.reads e y u h2 ry
  exact eq_dataH ra rb s1 s2 hu ⟨.bl _, H, I, rfl, q⟩
theorem op_neD (hu : X.A.units + 64 < cLine) : OpR X (compareOp .NotEq) (rEqD X.K true) := by
  intro pins s σ H x y v u Q I rx ry h
  obtain ⟨d, e, h1, h2, s1, s2, q⟩ := h
  obtain ⟨as, ra⟩ := I.reads d x v h1 rx
  obtain ⟨bs, rb⟩ := I.reads e y u h2 ry
  exact ne_dataH ra rb s1 s2 hu ⟨.bl _, H, I, rfl, q⟩
def rInD (K : PySem.W.Frag) (neg : Bool) : R2 := fun x y H Q => ∃ d ds, Dt K H d x ∧ Dt K H (.list ds) y ∧ SeqAt.shaped d = true ∧ PyData.canLayAll0 ds = true ∧ Q (.bl (if neg then !(ds.any fun y => PyData.eqv y d) else ds.any fun y => PyData.eqv y d)) H
theorem op_inD (hu : X.A.units + 66 < cLine) : OpR X (compareOp .In) (rInD X.K false) := by
  intro pins s σ H x y v u Q I rx ry h
  obtain ⟨d, ds, h1, h2, s1, s2, q⟩ := h
  obtain ⟨as, ra⟩ := I.reads d x v h1 rx
  obtain ⟨bs, rb⟩ := I.reads _ y u h2 ry
  refine SeqAt.in_list_reads rb ra s2 (SeqAt.canLay_of_shaped s1) ?_ ⟨.bl _, H, I, rfl, q⟩
  have h3 := SeqAt.depth_of_shaped s1
  have h4 := Nat.min_le_right (PyData.depthAll ds) d.depth
  omega
end

def dI (ns : List Int) : PyData := .list (ns.map .int)
def dII (nss : List (List Int)) : PyData := .list (nss.map dI)
theorem dtAll_map {α : Type} {K : PySem.W.Frag} {H : Hp} {f : α → PyData} {F : α → V → Prop} (hf : ∀ x v, F x v → Dt K H (f x) v) : ∀ {xs : List α} {vs : List V}, Paired F xs vs → DtAll K H (xs.map f) vs
  | _, _, .nil => by unfold DtAll; rfl
  | _, _, .cons h t => by
    rw [List.map_cons]
    unfold DtAll
    exact ⟨_, _, rfl, hf _ _ h, dtAll_map hf t⟩
theorem dtAll_ints {K : PySem.W.Frag} {H : Hp} : ∀ ns : List Int, DtAll K H (ns.map .int) (ns.map V.int)
  | [] => by rw [List.map_nil, List.map_nil]; unfold DtAll; rfl
  | n :: r => by
    rw [List.map_cons, List.map_cons]
    unfold DtAll
    exact ⟨_, _, rfl, by unfold Dt; rfl, dtAll_ints r⟩
theorem dt_I {K : PySem.W.Frag} {H : Hp} {a : Addr} {ns : List Int} (h : SqL K H a (ns.map V.int)) : Dt K H (dI ns) (.ref a) := by
  unfold dI Dt
  exact ⟨a, _, rfl, h, dtAll_ints ns⟩
theorem dt_II {K : PySem.W.Frag} {H : Hp} {a : Addr} {vs : List V} {nss : List (List Int)} (h : SqL K H a vs) (hs : Paired (fun ns v => ∃ b, v = V.ref b ∧ SqL K H b (ns.map V.int)) nss vs) : Dt K H (dII nss) (.ref a) := by
  unfold dII Dt
  exact ⟨a, _, rfl, h, dtAll_map (fun ns v ⟨b, e, q⟩ => by rw [e]; exact dt_I q) hs⟩
theorem eqvAll_map {α : Type} [DecidableEq α] {f : α → PyData} (hf : ∀ x y, PyData.eqv (f x) (f y) = decide (x = y)) : ∀ xs ys : List α, PyData.eqvAll (xs.map f) (ys.map f) = decide (xs = ys)
  | [], [] => by simp [PyData.eqvAll]
  | [], _ :: _ => by simp [PyData.eqvAll]
  | _ :: _, [] => by simp [PyData.eqvAll]
  | a :: r, b :: t => by
    simp only [List.map_cons, PyData.eqvAll, hf, eqvAll_map hf r t]
    by_cases h : a = b <;> by_cases h' : r = t <;> simp [h, h']
theorem eqv_int (x y : Int) : PyData.eqv (.int x) (.int y) = decide (x = y) := by
  simp only [PyData.eqv]
  exact Bool.beq_eq_decide_eq x y
theorem eqv_I (xs ys : List Int) : PyData.eqv (dI xs) (dI ys) = decide (xs = ys) := by
  unfold dI
  simp only [PyData.eqv]
  exact eqvAll_map eqv_int xs ys
theorem eqv_II (xs ys : List (List Int)) : PyData.eqv (dII xs) (dII ys) = decide (xs = ys) := by
  unfold dII
  simp only [PyData.eqv]
  exact eqvAll_map eqv_I xs ys
theorem layAll_map {α : Type} {f : α → PyData} (hf : ∀ x, (f x).canLay0 = true) : ∀ xs : List α, PyData.canLayAll0 (xs.map f) = true
  | [] => by simp [PyData.canLayAll0]
  | x :: r => by simp only [List.map_cons, PyData.canLayAll0, hf x, layAll_map hf r, Bool.and_true]
theorem depAll_map {α : Type} {f : α → PyData} {n : Nat} (hf : ∀ x, (f x).depth ≤ n) : ∀ xs : List α, PyData.depthAll (xs.map f) ≤ n
  | [] => by simp [PyData.depthAll]
  | x :: r => by
    have h1 := hf x
    have h2 := depAll_map hf r
    simp only [List.map_cons, PyData.depthAll]
    omega
theorem lay_I (ns : List Int) : (dI ns).canLay0 = true := by
  unfold dI
  simp only [PyData.canLay0]
  exact layAll_map (fun _ => by simp [PyData.canLay0]) ns
theorem dep_I (ns : List Int) : (dI ns).depth ≤ 1 := by
  unfold dI
  simp only [PyData.depth]
  have := depAll_map (f := PyData.int) (n := 0) (fun _ => by simp [PyData.depth]) ns
  omega
theorem lay_II (nss : List (List Int)) : (dII nss).canLay0 = true := by
  unfold dII
  simp only [PyData.canLay0]
  exact layAll_map lay_I nss
theorem dep_II (nss : List (List Int)) : (dII nss).depth ≤ 2 := by
  unfold dII
  simp only [PyData.depth]
  have := depAll_map (f := dI) (n := 1) dep_I nss
  omega
theorem shaped_of {d : PyData} {n : Nat} (h : d.canLay0 = true) (h2 : d.depth ≤ n) (h3 : n ≤ 64) : SeqAt.shaped d = true := by
  unfold SeqAt.shaped
  rw [h, Bool.true_and]
  exact decide_eq_true (Nat.le_trans h2 h3)

section
variable {X : Cx}

end
end L2
namespace L2
open PySem PySem.Spec PyProof.Rows

section
variable {prog : Program} {w : World} {A : Around} {E : Value → Shared → Prop} {s : Shared}
end
section
variable {X : Cx}
end
end L2
namespace L2
open PySem PySem.Spec PyProof.Rows
section
variable {X : Cx}
theorem call_isinst : CallR X (.builtin "isinstance") (fun xs H Q => ∃ x n t b, xs = [x, .ty n] ∧ TyOf X.K H x t ∧ PySem.W.kitOne X.K t (.type n) = some b ∧ Q (.bl b) H) := by
  intro pins s σ H xs us Q I r h
  obtain ⟨x, n, t, b, rfl, ty, e, q⟩ := h
  obtain ⟨u, v, rfl, ru, rv⟩ := vals2 r
  cases (show v = Value.type n from rv)
  exact isinst_ok I ru ty e fun tk => ⟨.bl b, H, I.tok tk, rfl, q⟩
theorem kit_same {K : PySem.W.Frag} {n : String} : PySem.W.kitOne K (.type n) (.type n) = some true := by
  unfold PySem.W.kitOne
  rw [if_pos (by simp)]
theorem kit_no {K : PySem.W.Frag} {n m : String} (h : ((Value.type n == Value.type m) = false ∧ PySem.W.kitMeta m = true ∧ (PySem.fastBuiltinMro n).map (·.contains (Value.type m)) = some false)) : PySem.W.kitOne K (.type n) (.type m) = some false := by
  obtain ⟨h1, h2, h3⟩ := h
  unfold PySem.W.kitOne PySem.W.kitCls
  rw [if_neg (by rw [h1]; decide)]
  show (if PySem.W.kitMeta m = true then PySem.W.subIn K (.type n) (.type m) else none) = some false
  rw [if_pos h2]
  exact h3
theorem kit_int_bool {K : PySem.W.Frag} : PySem.W.kitOne K (.type "int") (.type "bool") = some false := kit_no (by decide +kernel)

end
end L2
namespace L2
open PySem PySem.Spec PyProof.Rows
section
variable {X : Cx} {K : PySem.W.Frag}
theorem k_ixL (h : X.K = K) : IxR X (rIxL K) := h ▸ ix_list
theorem k_ixT (h : X.K = K) : IxR X (rIxT K) := h ▸ ix_tup
theorem k_slL (h : X.K = K) : SlR X (rSlL K) := h ▸ sl_list
theorem k_eqD (h : X.K = K) (hu : X.A.units + 64 < cLine) : OpR X (compareOp .Eq) (rEqD K false) := h ▸ op_eqD hu
theorem k_neD (h : X.K = K) (hu : X.A.units + 64 < cLine) : OpR X (compareOp .NotEq) (rEqD K true) := h ▸ op_neD hu
theorem k_inD (h : X.K = K) (hu : X.A.units + 66 < cLine) : OpR X (compareOp .In) (rInD K false) := h ▸ op_inD hu
def rLen (K : PySem.W.Frag) : List V → Hp → VK → Prop := fun xs H Q => ∃ p ys, xs = [.ref p] ∧ (SqL K H p ys ∨ SqT K H p ys) ∧ Q (.int ys.length) H
theorem k_len (h : X.K = K) : CallR X (.builtin "len") (rLen K) := h ▸ call_len_seq
def rIsinst (K : PySem.W.Frag) : List V → Hp → VK → Prop := fun xs H Q => ∃ x n t b, xs = [x, .ty n] ∧ TyOf K H x t ∧ PySem.W.kitOne K t (.type n) = some b ∧ Q (.bl b) H
theorem k_isinst (h : X.K = K) : CallR X (.builtin "isinstance") (rIsinst K) := h ▸ call_isinst
theorem k_list {tg l : Expr} {tl : TE} (h : X.K = K) (hl : PE X l tl) : PI X tg l (iList K tl) := h ▸ pi_list hl
end
end L2
namespace L2
open PySem PySem.Spec PyProof.Rows
theorem paired_get1 {α β : Type} {F : α → β → Prop} : ∀ {l₁ : List α} {l₂ : List β} {i : Nat} {a : α}, Paired F l₁ l₂ → l₁[i]? = some a → ∃ b, l₂[i]? = some b ∧ F a b
  | _, _, _, _, .nil, e => by simp at e
  | _, _, 0, _, .cons r _, e => by simp at e; subst e; exact ⟨_, rfl, r⟩
  | _, _, i + 1, b, .cons _ t, e => by
    obtain ⟨a, h1, h2⟩ := paired_get1 (i := i) (a := b) t (by simpa using e)
    exact ⟨a, by simpa using h1, h2⟩
theorem paired_flip {α β : Type} {F : α → β → Prop} : ∀ {l₁ : List α} {l₂ : List β}, Paired F l₁ l₂ → Paired (fun b a => F a b) l₂ l₁
  | _, _, .nil => .nil
  | _, _, .cons h t => .cons h (paired_flip t)
theorem paired_map1 {α β γ : Type} {F : γ → β → Prop} {f : α → γ} : ∀ {l₁ : List α} {l₂ : List β}, Paired (fun a b => F (f a) b) l₁ l₂ → Paired F (l₁.map f) l₂
  | _, _, .nil => .nil
  | _, _, .cons h t => .cons h (paired_map1 t)
def WL (H : Hp) (lw : Addr) (ws : List (List Int)) : Prop := ∃ as : List Addr, H lw = some (.lst (as.map V.ref)) ∧ Paired (fun b w => H b = some (.lst (w.map V.int))) as ws
theorem WL.same {H H' : Hp} {lw : Addr} {ws : List (List Int)} (h : WL H lw ws) (s : Same H H') : WL H' lw ws := by
  obtain ⟨as, h1, h2⟩ := h
  exact ⟨as, s _ _ h1, Paired.mapP h2 fun b w e => s _ _ e⟩
theorem WL.dt {K : PySem.W.Frag} {H : Hp} {lw : Addr} {ws : List (List Int)} (h : WL H lw ws) : Dt K H (dII ws) (.ref lw) := by
  obtain ⟨as, h1, h2⟩ := h
  exact dt_II (SqL.of h1) (paired_flip (paired_map1 (Paired.mapP h2 fun b w e => ⟨b, rfl, SqL.of e⟩)))
end L2
namespace L2
open PySem PySem.Spec PyProof.Rows

structure TDef (K : PySem.W.Frag) (mg : Str → Option Value) (x : Str) (st : Stmt) (ps : List Str) : Prop where
  ex : ∃ f fd, Fun K x x st f fd ∧ mg x = some (.ref f) ∧ Binds K fd ps []
structure Cal (P : Program) (w : World) (K : PySem.W.Frag) (mg : Str → Option Value) (base : Heap) (k : Nat) (x : Str) (ps : List Str) (sp : Sp) : Prop where
  ex : ∃ f fd, FnOk P w K mg base CX0 k f fd ps sp ∧ mg x = some (.ref f) ∧ PySem.W.keepIn K (.ref f) = true ∧ Binds K fd ps []
section
variable {P : Program} {w : World} {K : PySem.W.Frag} {mg : Str → Option Value} {base : Heap}
theorem TDef.ok {x : Str} {st : Stmt} {N ps : List Str} {k : Nat} {sp : Sp} (D : TDef K mg x st ps) (S : FnScope N ps (defScope st)) (len : ∀ vs H Q E, sp vs H Q E → vs.length = ps.length)
    (hbody : ∀ (f : Addr) (cdv : Value) (A : Around) (outer : List Env) (s : Shared) (H : Hp) (vs : List V) (Q : VK) (E : XK), Room k (A.deeper (envOfC x (defScope st) s.heap.objs.size f cdv)) → sp vs H Q E →
      ∃ t, PSs (cxOf CX0 P w K mg base N x (defScope st) f cdv A outer s H E).nox (defBody st) t ∧ t { nx := fun _ H' => Q .non H', rt := Q } (start N vs) H) : Cal P w K mg base (k + 1) x ps sp := by
  obtain ⟨f, fd, F, hm, hb⟩ := D.ex
  exact ⟨f, fd, F.ok S len (hbody f), hm, F.kp, hb⟩
theorem tdef_mk {x : Str} {st : Stmt} {ps : List Str} {f : Addr} {fd : FuncData} (F : Fun K x x st f fd) (hm : mg x = some (.ref f)) (hb : Binds K fd ps []) : TDef K mg x st ps := ⟨f, fd, F, hm, hb⟩
theorem pe_cal {X : Cx} {k : Nat} {x : Str} {ps : List Str} {sp : Sp} {p pos : Pos} {e : Expr} {es : List Expr} {t : TA} (C : Cal X.prog X.w X.K X.mg X.base k x ps sp) (hr : Room k X.A) (hg : Gl X x) (ha : PA X (e :: es) t)
    (hdb : (x == ("__debug__" : Str)) = false := by decide) (he : starEach (e :: es) X.env = (false, eval e X.env) :: starEach es X.env := by rfl) (hpl : (backTo pos (starEach es X.env)).any (·.1) = false := by rfl) :
    PE X (.Call (.Name x p) (e :: es) [] pos) (tCall sp [] E0 t) := by
  obtain ⟨f, fd, F, hm, hk, hb⟩ := C.ex
  exact pe_call F hr hg hm hk hb .nil pass0 ha hdb he hpl
end
theorem room64 {k : Nat} {A : Around} (r : Room k A) : A.units + 64 < cLine := r.units
theorem room66 {k : Nat} {A : Around} (r : Room k A) : A.units + 66 < cLine := by
  have := r.un
  omega
def tBy (t : TS) : TS := fun D σ H => ∃ M : St → Hp → Prop, t { D with nx := M } σ H ∧ ∀ σ H, M σ H → D.nx σ H
theorem ps_by {X : Cx} {st : Stmt} {t : TS} (h : PS X st t) : PS X st (tBy t) := by
  intro pins s σ H D I hq
  obtain ⟨M, h1, h2⟩ := hq
  refine thn (h pins s σ H _ I h1) fun f s' q => ?_
  cases f with
  | next => obtain ⟨σ', H', I', q⟩ := q; exact ⟨σ', H', I', h2 _ _ q⟩
  | brk => exact q
  | cont => exact q
  | ret v => exact q
end L2

namespace L2
open PySem
structure Ris (vs : List Nat) : Prop where
  lt : ∀ v ∈ vs, v < 8
  up : vs.Pairwise (· < ·)
theorem Ris.nil : Ris [] := ⟨fun _ h => absurd h List.not_mem_nil, .nil⟩
theorem ris_len : ∀ {vs : List Nat} {n m : Nat}, vs.Pairwise (· < ·) → (∀ v ∈ vs, n ≤ v ∧ v < m) → vs.length ≤ m - n
  | [], _, _, _, _ => by simp
  | x :: r, n, m, h, hb => by
    rw [List.pairwise_cons] at h
    have hx := hb x List.mem_cons_self
    have ih := ris_len (vs := r) (n := x + 1) (m := m) h.2 fun v hv => ⟨h.1 v hv, (hb v (List.mem_cons_of_mem _ hv)).2⟩
    simp only [List.length_cons]
    omega
theorem Ris.len {vs : List Nat} (h : Ris vs) : vs.length ≤ 8 := ris_len (n := 0) (m := 8) h.up fun v hv => ⟨Nat.zero_le _, h.lt v hv⟩
end L2
namespace L2
open PySem PySem.Spec PyProof.Rows
end L2
namespace L2
open PySem PySem.Spec PyProof.Rows
section
variable {prog : Program} {w : World} {A : Around} {E : Value → Shared → Prop} {s : Shared}
end
end L2
namespace L2
open PySem PySem.Spec PyProof.Rows
section
variable {prog : Program} {w : World} {A : Around} {R : Result → Shared → Prop} {I : Addr} {fp wr : List Addr} {G : Array GenState → Array GenState → Prop} {n : Nat} {P : Nat → Value → Prop} {St : Nat → Shared → Prop}
end
section
variable {prog : Program} {w : World} {A : Around} {E : Value → Shared → Prop} {s : Shared}
end
end L2
namespace L2
open PySem PySem.Spec PyProof.Rows
namespace SF
end SF
section
variable {prog : Program} {w : World} {A : Around} {E : Value → Shared → Prop} {s : Shared}
end
end L2
namespace L2
open PySem PySem.Spec PyProof.Rows
section
variable {prog : Program} {w : World} {A : Around} {E : Value → Shared → Prop} {s : Shared}
end
end L2
namespace L2
open PySem PySem.Spec PyProof.Rows
section
variable {prog : Program} {w : World} {A : Around} {E : Value → Shared → Prop} {s : Shared}
end
end L2

namespace Sh
section
variable {α : Type}
end
end Sh
namespace Sh
end Sh
namespace Sh
end Sh
namespace Sh
end Sh
namespace L2
open PySem PySem.Spec PyProof.Rows
section
variable {X : Cx}
end
end L2
namespace L2
open PySem PySem.Spec PyProof.Rows
end L2
namespace L2
open PySem PySem.Spec PyProof.Rows
end L2
namespace L2
open PySem PySem.Spec PyProof.Rows
end L2

namespace Sh
def okB (ws : List (List Int)) (bg : List Int) (b : Int) : Bool := ws.all fun w => decide (b ∈ w) || (w.all fun x => decide (x ∉ bg)) || (w.all fun x => decide (x ∈ bg))
def nxt (many : Nat) (ws : List (List Int)) (bg : List Int) : List Int := (rangeI many).filter fun b => decide (b ∉ bg) && okB ws bg b
def lle : List Int → List Int → Bool
  | [], _ => true
  | _ :: _, [] => false
  | x :: a, y :: b => decide (x < y) || (decide (x = y) && lle a b)
def tl (many : Nat) (ws : List (List Int)) : Nat → List Int → Option (List Int)
  | 0, _ => some []
  | n + 1, bg => (nxt many ws bg).findSome? fun b => (tl many ws n (bg ++ [b])).map (b :: ·)
end Sh
namespace L2
open PySem PySem.Spec PyProof.Rows
def aCls (mg : Str → Option Value) (x : Str) : Addr := match mg x with
  | some (.ref C) => C
  | _ => 0
theorem aCls_of {mg : Str → Option Value} {x : Str} {C : Addr} (h : mg x = some (.ref C)) : aCls mg x = C := by
  unfold aCls
  rw [h]
section
variable {P : Program} {w : World} {K : PySem.W.Frag} {mg : Str → Option Value} {base : Heap}
end
section
variable {X : Cx} {k : Nat} {C : Addr} {x m : Str} {ps : List Str} {sp : Sp} {p pos apos : Pos} {o e : Expr} {es : List Expr} {t : TA} {ta : TE}
end
end L2
namespace Sh
def ords (many : Nat) : Nat → List (List Int)
  | 0 => [[]]
  | k + 1 => (ords many k).flatMap fun row => ((rangeI many).filter fun b => decide (b ∉ row)).map fun b => row ++ [b]
def Lt (a b : List Int) : Prop := lle a b = true ∧ a ≠ b
def cl (p : List Int → Bool) (n : Nat) : Nat → List Int
  | 0 => rangeI n
  | k + 1 => if p ((cl p n k).filter fun x => decide (x ≠ (k : Int))) then (cl p n k).filter fun x => decide (x ≠ (k : Int)) else cl p n k
end Sh
namespace Sh
end Sh
namespace L2
open PySem PySem.Spec PyProof.Rows
end L2
namespace L2
open PySem PySem.Spec PyProof.Rows
section
variable {X : Cx}
end
end L2
namespace Sh
end Sh
namespace L2
open PySem PySem.Spec PyProof.Rows
section
variable {X : Cx} {tg : Expr}
end
end L2
namespace L2
open PySem PySem.Spec PyProof.Rows
section
variable {X : Cx} {K : PySem.W.Frag}
end
end L2
namespace L2
open PySem PySem.Spec PyProof.Rows
theorem cut_drop {xs : List V} {k : Nat} : cutV xs (some (k : Int)) none = xs.drop k := by
  unfold cutV
  rw [HT.sIx_none, HT.sIx_nat]
  by_cases h : k ≤ xs.length
  · rw [Nat.min_eq_left h]
    rw [List.take_of_length_le]
    rw [List.length_drop]
    omega
  · rw [Nat.min_eq_right (by omega), List.drop_eq_nil_of_le (Nat.le_refl _), List.drop_eq_nil_of_le (by omega)]
    simp
end L2
namespace Sh
def wlk (many : Nat) (ws : List (List Int)) (bg : List Int) : Bool := (List.range bg.length).all fun j => decide (bg.getD j 0 ∈ nxt many ws (bg.take j))
def tr (many : Nat) (ws : List (List Int)) (os : List Int) (k : Nat) : Option (List Int) :=
  if wlk many ws (os.take k) then (((nxt many ws (os.take k)).filter fun b => decide (b > os.getD k 0)).findSome? fun b => (tl many ws (many - k - 1) (os.take k ++ [b])).map (b :: ·)).map (os.take k ++ ·) else none
end Sh
namespace L2
open PySem PySem.Spec PyProof.Rows
section
variable {X : Cx}
end
end L2
namespace Sh
def so (os : List Int) (p : Int × Int) : Bool := decide (os.idxOf p.1 < os.idxOf p.2)
end Sh
namespace L2
open PySem PySem.Spec PyProof.Rows
section
variable {X : Cx} {tg : Expr}
end
end L2
namespace Sh
end Sh
namespace L2
open PySem PySem.Spec PyProof.Rows
section
variable {prog : Program} {w : World} {A : Around} {E : Value → Shared → Prop} {s : Shared}
end
section
variable {X : Cx} {tg : Expr}
end
end L2
namespace L2
open PySem PySem.Spec PyProof.Rows
section
variable {prog : Program} {w : World} {A : Around} {E : Value → Shared → Prop} {s : Shared} {knd : HeapKind prog w (List Key)}
end
section
variable {X : Cx}
end
end L2
namespace Sh
section
open Classical
variable {α : Type}
def Mod (T : α → α → Prop) (V : List α) (N : α → Prop) : Prop := ∀ x ∈ V, ¬ N x → (∀ n ∈ V, N n → T x n) ∨ ∀ n ∈ V, N n → T n x
def Holds (V : List α) (R : α → α → Prop) (N : α → Prop) : Prop := ∀ x ∈ V, ∀ y ∈ V, ∀ z ∈ V, R x y → R y z → N x → N z → N y

noncomputable def fl (V : List α) (p : α → Prop) : List α := V.filter fun x => @decide (p x) (propDecidable (p x))



end
end Sh
namespace Sh
section
variable {α : Type} {nb : α → List α}
end
end Sh
namespace Sh
end Sh
namespace L2
open PySem PySem.Spec PyProof.Rows
end L2
namespace L2
open PySem PySem.Spec PyProof.Rows
section
open PySem.SeqAt
open PySem.AutoSeq1 (wpAny_loadPart')
open PySem.MeetsSeq PySem.MeetsSeq2 PySem.MeetsSeq3
end
section
variable {X : Cx}
end
end L2
namespace L2
open PySem PySem.Spec PyProof.Rows
def dO : Option (List Int) → PyData
  | none => .none
  | some x => dI x
end L2
namespace Sh
end Sh

namespace L2
open PySem PySem.Spec PyProof.Rows
theorem ObjOk.thr {P : Program} {w : World} {H : Hp} {h : Heap} {a : Addr} {o : HO} (x : ObjOk P w H h a o) : ∃ ob, h.get? a = some ob := by
  cases o with
  | lst xs => obtain ⟨_, _, _, _, e⟩ := x; exact ⟨_, e⟩
  | tup xs => obtain ⟨_, _, _, ob, e, _⟩ := x; exact ⟨_, e⟩
  | dK kvs => obtain ⟨_, _, _, _, o, _, _, e, _⟩ := x; exact ⟨_, e⟩
  | dT kvs => obtain ⟨_, _, _, _, o, _, _, e, _⟩ := x; exact ⟨_, e⟩
  | set S n => obtain ⟨o, _, _, _, e, _⟩ := x; exact ⟨_, e⟩
  | ins C dx fs => obtain ⟨_, _, _, e, _⟩ := x; exact ⟨_, e⟩
  | own y => exact x
  | xd fs => obtain ⟨_, ⟨_, _, _, e, _⟩, _⟩ := x; exact ⟨_, e⟩
  | rng lo hi => obtain ⟨_, _, _, e⟩ := x; exact ⟨_, e⟩
  | frz ob u => obtain ⟨e, _⟩ := x; exact ⟨_, e⟩
  | tbl ps => exact ⟨_, (show h.get? a = some _ from x)⟩
  | met f y => exact ⟨_, (show h.get? a = some _ from x)⟩
  | ext φ => obtain ⟨_, ⟨_, e⟩, _⟩ := x; exact ⟨_, e⟩

def Mv (ch fs : List Addr) (h h' : Heap) : Prop :=
  (∀ b o, b ∉ ch → b ∉ fs → h.get? b = some o → h'.get? b = some o) ∧ ∀ b o, b ∉ ch → b ∈ fs → h.get? b = some o → ∃ sl, h'.get? b = some { o with slots := sl }
section
variable {P : Program} {w : World} {ch fs : List Addr} {H H' : Hp} {h h1 h2 : Heap}
theorem Mv.any (m : Mv ch fs h h1) {b : Addr} {o : Obj} (hb : b ∉ ch) (e : h.get? b = some o) : ∃ sl, h1.get? b = some { o with slots := sl } := by
  by_cases z : b ∈ fs
  · exact m.2 b o hb z e
  · exact ⟨o.slots, m.1 b o hb z e⟩
theorem Un.mv (u : Un fs [] H H' h h1) (m : Mv ch fs h1 h2) (hc : ∀ b ∈ ch, h.get? b = none) : Un fs [] H H' h h2 := by
  have nc : ∀ {b o}, h.get? b = some o → b ∉ ch := fun e z => by rw [hc _ z] at e; cases e
  refine ⟨fun b o e n hb hx => m.1 b o (nc e) hb (u.keep b o e n hb hx), fun b o e n hb hx => ?_, u.free, fun b o e hx => ?_, u.tups, u.frzs, u.tbls⟩
  · obtain ⟨_, e1⟩ := u.slot b o e n hb hx
    obtain ⟨sl, e2⟩ := m.2 b _ (nc e) hb e1
    exact ⟨sl, e2⟩
  · obtain ⟨_, e1⟩ := u.there b o e hx
    obtain ⟨sl, e2⟩ := m.any (nc e) e1
    exact ⟨_, e2⟩
theorem HOk.mv (x : HOk P w H h1) (m : Mv ch fs h1 h2) (hc : ∀ b ∈ ch, H b = none) (hf : ∀ b ∈ fs, H b = none) : HOk P w H h2 := fun b o e => by
  have ne : ∀ c u, H c = some u → c ∉ ch ∧ c ∉ fs := fun c u q => ⟨fun z => absurd ((hc c z).symm.trans q) (fun y => nomatch y), fun z => absurd ((hf c z).symm.trans q) (fun y => nomatch y)⟩
  refine (x b o e).stay (fun c u hc' q => ?_) (fun _ q => q) fun _ _ q => q
  rcases hc' with rfl | z
  · exact m.1 _ _ (ne _ _ e).1 (ne _ _ e).2 q
  · exact m.1 _ _ (ne _ _ z).1 (ne _ _ z).2 q
end

def Fly (h : Heap) (a C T : Addr) : Prop :=
  ∃ oe vs oT ts a0, h.get? a = some oe ∧ (oe.cls = .ref C ∧ vs[0]? = some a0) ∧ oe.data = .fields vs ∧ vs[1]? = some (.ref T) ∧ T ≠ a ∧ h.get? T = some oT ∧ oT.data = .fields ts ∧ ts[3]? = some .none

def CX1 (P : Program) (w : World) : CXT := fun outer H s E e s' =>
  ∃ a C T H', e = .ref a ∧ s'.os = s.os ∧ AllBare s'.gens ∧ Un (frs outer) [] H H' s.heap s'.heap ∧ HOk P w H' s'.heap ∧ Fly s'.heap a C T ∧
    H' a = none ∧ H' T = none ∧ s.heap.get? a = none ∧ s.heap.get? T = none ∧ E (.ref C) none H'


theorem hid_stays {h : Heap} {l : List Addr} : (PySem.W.hideAll h l).StaysIn h := fun b o q => PySem.W.of_hideAll l q
theorem mv_of_left {h h' : Heap} {ch fs : List Addr} {l : List Env} {base : Heap} (st : (PySem.W.hideAll h (ch ++ fs)).StaysIn h') (up : ∀ b o, h.get? b = some o → (∀ vs, o.data ≠ .fields vs) → ∃ sl, h'.get? b = some { o with slots := sl })
    (hl : h.FunFrames base l) (hfs : fs = frs l) : Mv ch fs h h' := by
  refine ⟨fun b o hc hb e => st b o (PySem.W.hideAll_get _ e fun z => (List.mem_append.mp z).elim hc hb), fun b o _ hb e => ?_⟩
  subst hfs
  obtain ⟨_, o', e', nf⟩ := hl.mem hb
  rw [e] at e'; cases e'
  exact up b o e nf

section
variable {X : Cx} {pins : List (Addr × Obj)} {σ : St} {H : Hp} {s : Shared}
theorem Inv.unOut {H' : Hp} {h' : Heap} (I : Inv X pins σ H s) (hex : X.ex = []) (u : Un (frs X.stack) [] H H' s.heap h') : Un (frs X.outer) [] X.H₀ H' X.s₀.heap h' := by
  have b0 := I.base
  rw [hex] at b0
  have nL : ∀ b o, X.s₀.heap.get? b = some o → b ≠ X.env.locals := fun b o e => Nat.ne_of_lt (Nat.lt_of_lt_of_le (Heap.lt_size e) I.ok.above)
  have no : ∀ b : Addr, b ∉ ([] : List Addr) := fun b z => nomatch z
  refine ⟨fun b o e n hb hx => ?_, fun b o e n hb hx => ?_, fun b o e n hx => ?_, fun b o e hx => ?_, fun b xs e => u.tups b xs (b0.tups b xs e), fun b o xs e => u.frzs b o xs (b0.frzs b o xs e), fun b ps e => ?_⟩
  · exact u.keep b o (b0.keep b o e n hb hx) (b0.free b o e n hx) (fun z => (List.mem_cons.mp (I.stkSub b z)).elim (nL b o e) hb) (no b)
  · obtain ⟨_, e1⟩ := b0.slot b o e n hb hx
    obtain ⟨sl, e2⟩ := u.any e1 (b0.free b o e n hx) (no b)
    exact ⟨sl, e2⟩
  · obtain ⟨o', e1⟩ := b0.there b o e hx
    exact u.free b o' e1 (b0.free b o e n hx) (no b)
  · obtain ⟨o', e1⟩ := b0.there b o e hx
    exact u.there b o' e1 (no b)
  · obtain ⟨m1, e1⟩ := b0.tbls b ps e
    obtain ⟨m2, e2⟩ := u.tbls b _ e1
    exact ⟨m1 ++ m2, by rw [e2, Array.append_assoc]⟩
theorem Inv.newOut (I : Inv X pins σ H s) (hex : X.ex = []) {b : Addr} (e : s.heap.get? b = none) : X.s₀.heap.get? b = none := by
  cases q : X.s₀.heap.get? b with
  | none => rfl
  | some o =>
    obtain ⟨o', e'⟩ := I.base.there b o q (by rw [hex]; exact fun z => nomatch z)
    rw [e] at e'; cases e'

theorem fly_step {P : Program} {w : World} {stk : List Env} {base : Heap} {H' : Hp} {h0 h h' : Heap} {a C : Addr} {a0 : Value} {ch : List Addr} (hch : a ∈ ch) (hl : h.FunFrames base stk) (fr : ∀ b ∈ frs stk, H' b = none)
    (hc0 : ∀ b ∈ ch, h0.get? b = none) (hcH : ∀ b ∈ ch, H' b = none) (hok : HOk P w H' h) (th : ∀ b o, h0.get? b = some o → ∃ o', h.get? b = some o')
    (st : (PySem.W.hideAll h (ch ++ frs stk)).StaysIn h') (up : ∀ b o, h.get? b = some o → (∀ vs, o.data ≠ .fields vs) → ∃ sl, h'.get? b = some { o with slots := sl }) {fl : Value}
    (tr : h'.TracedAtW (PySem.W.hideAll h (ch ++ frs stk)) a (.ref C) a0 fl) :
    ∃ oe vs T oT ts, h'.get? a = some oe ∧ (oe.cls = .ref C ∧ vs[0]? = some a0) ∧ oe.data = .fields vs ∧ vs[1]? = some (.ref T) ∧ T ≠ a ∧ h'.get? T = some oT ∧ oT.data = .fields ts ∧ ts[3]? = some fl ∧ H' T = none ∧ h0.get? T = none := by
  obtain ⟨oe, vs, T, oT, ts, he, hcl, hd, h1, hnT, hTe, hT, hdT, h3⟩ := tr
  refine ⟨oe, vs, T, oT, ts, he, hcl, hd, h1, hTe, hT, hdT, h3, ?_, ?_⟩
  · cases q : H' T with
    | none => rfl
    | some u =>
      obtain ⟨ob, eb⟩ := (hok T u q).thr
      have n1 : T ∉ ch := fun z => by rw [hcH T z] at q; cases q
      have n2 : T ∉ frs stk := fun z => by rw [fr T z] at q; cases q
      rw [PySem.W.hideAll_get _ eb fun z => (List.mem_append.mp z).elim n1 n2] at hnT; cases hnT
  · cases q : h0.get? T with
    | none => rfl
    | some o =>
      obtain ⟨o', e'⟩ := th T o q
      have n1 : T ∉ ch := fun z => by rw [hc0 T z] at q; cases q
      by_cases n2 : T ∈ frs stk
      · obtain ⟨_, o2, e2, nf⟩ := hl.mem n2
        obtain ⟨sl, e3⟩ := up T o2 e2 nf
        rw [hT] at e3; cases e3
        exact absurd hdT (nf ts)
      · rw [PySem.W.hideAll_get _ e' fun z => (List.mem_append.mp z).elim n1 n2] at hnT; cases hnT

theorem frames_in {stk : List Env} : ∀ env ∈ stk, ∀ b, env.frame = some b → b ∈ frs stk := fun env he b hb => List.mem_filterMap.mpr ⟨env, he, hb⟩
theorem funs_hid {h base : Heap} {stk : List Env} {ch : List Addr} (hl : h.FunFrames base stk) : h.FunFrames (PySem.W.hideAll h (ch ++ frs stk)) stk :=
  PySem.W.funFrames_hide hl fun env he b hb => List.mem_append_right _ (frames_in env he b hb)

theorem cx1_next {M : Model} {E : XK} {EE : Value → Shared → Prop} {e : Value} {s' : Shared} (I : Inv X pins σ H s) (hst : X.stack = X.env :: X.outer) (hfr : X.env.frame = some X.env.locals) (hex : X.ex = [])
    (hx : CX1 X.prog X.w X.stack H s E e s') : wpAny M X.A (leaving X.env e) (fun _ s'' => CX1 X.prog X.w X.outer X.H₀ X.s₀ E e s'') EE s' := by
  obtain ⟨a, C, T, H', rfl, os, bare, un, hok, ⟨oe, vs, oT, ts, a0, he, hcl, hd, h1, hTe, hT, hdT, h3⟩, na, nT, fa, fT, q⟩ := hx
  have I' : Inv X pins σ H' s' := I.call' (ch := []) os un hok bare (fun _ z => nomatch z)
  have hl := I'.stack
  have nos : ∀ b ∈ [a, T], H' b = none := fun b z => by
    rcases List.mem_cons.mp z with rfl | z
    · exact na
    · rw [List.mem_singleton.mp z]; exact nT
  have news : ∀ b ∈ [a, T], s.heap.get? b = none := fun b z => by
    rcases List.mem_cons.mp z with rfl | z
    · exact fa
    · rw [List.mem_singleton.mp z]; exact fT
  have hl' := funs_hid (ch := [a, T]) hl
  rw [hst] at hl'
  refine wpAny_leaving_nextW (base := PySem.W.hideAll s'.heap ([a, T] ++ frs (X.env :: X.outer))) (cls := .ref C) (a0 := a0) (by rw [I.ok.frames, hst]) hl' hfr ⟨oe, vs, T, oT, ts, he, hcl, hd, h1, PySem.W.hideAll_none _ (by simp), hTe, hT, hdT, h3⟩
    hid_stays (PySem.W.hideAll_none _ (by simp)) fun h' ⟨k1, k2, k3, k4⟩ => ?_
  rw [← hst] at k1 k3
  have mv : Mv [a, T] (frs X.stack) s'.heap h' := mv_of_left k1 k4 hl rfl
  obtain ⟨oe', vs', T', oT', ts', p1, p2, p3, p4, p5, p6, p7, p8, p9, p10⟩ := fly_step (P := X.prog) (w := X.w) (h0 := s.heap) (ch := [a, T]) (by simp) hl I'.stkFree news nos hok (fun b o e => un.there b o e (fun z => nomatch z)) k1 k4 k3.at
  exact ⟨a, C, T', H', rfl, os.trans I.os, bare, I.unOut hex (un.mv mv news), hok.mv mv nos I'.stkFree, ⟨oe', vs', oT', ts', a0, p1, p2, p3, p4, p5, p6, p7, p8⟩, na, p9, I.newOut hex fa, I.newOut hex p10, q⟩

theorem cx1_first {M : Model} {E : XK} {EE : Value → Shared → Prop} {a C : Addr} {h1 : Heap} {as : List Value} (I : Inv X pins σ H s) (hst : X.stack = X.env :: X.outer) (hfr : X.env.frame = some X.env.locals) (hex : X.ex = [])
    (hx : Heap.MadeExcOf s.heap h1 a (.ref C) as) (q : E (.ref C) none H) : wpAny M X.A (leaving X.env (.ref a)) (fun _ s'' => CX1 X.prog X.w X.outer X.H₀ X.s₀ E (.ref a) s'') EE { s with heap := h1 } := by
  obtain ⟨t, he, ft, ht⟩ := hx.there
  have fa := hx.new
  have no : ∀ b, s.heap.get? b = none → H b = none := fun b e => by
    cases q : H b with
    | none => rfl
    | some u =>
      obtain ⟨ob, eb⟩ := (I.hok b u q).thr
      rw [e] at eb; cases eb
  have I' : Inv X pins σ H { s with heap := h1 } := I.kept (t' := s.toks) hx.keeps
  have hl := I'.stack
  have nos : ∀ b ∈ [a], H b = none := fun b z => by rw [List.mem_singleton.mp z]; exact no a fa
  have news : ∀ b ∈ [a], s.heap.get? b = none := fun b z => by rw [List.mem_singleton.mp z]; exact fa
  have hl' := funs_hid (ch := [a]) hl
  rw [hst] at hl'
  refine wpAny_leaving_firstW (base := PySem.W.hideAll h1 ([a] ++ frs (X.env :: X.outer))) (a0 := .ref t) (by rw [I.ok.frames, hst]) hl' hfr he hid_stays (PySem.W.hideAll_none _ (by simp)) rfl rfl rfl fun h' ⟨k1, k2, k3, k4⟩ => ?_
  rw [← hst] at k1 k3
  have mv : Mv [a] (frs X.stack) h1 h' := mv_of_left k1 k4 hl rfl
  obtain ⟨oe', vs', T', oT', ts', p1, p2, p3, p4, p5, p6, p7, p8, p9, p10⟩ := fly_step (P := X.prog) (w := X.w) (h0 := s.heap) (ch := [a]) (by simp) hl I'.stkFree news nos I'.hok (fun b o e => ⟨o, hx.keeps b o e⟩) k1 k4 k3.at
  exact ⟨a, C, T', H, rfl, I.os, I.bare, I.unOut hex ((Un.kept hx.keeps).mv mv news), I'.hok.mv mv nos I'.stkFree, ⟨oe', vs', oT', ts', .ref t, p1, p2, p3, p4, p5, p6, p7, p8⟩, no a fa, p9, I.newOut hex fa, I.newOut hex p10, q⟩
end
end L2
namespace L2
open PySem PySem.Spec PyProof.Rows
structure ExC (K : PySem.W.Frag) (C : Addr) : Prop where
  ga : PySem.W.findIn K (.ref C) "__getattribute__" = some (some (.builtin "BaseException.__getattribute__"))
  gn : PySem.W.findIn K (.ref C) "__getattr__" = some none
  cl : PySem.W.findIn K (.ref C) "__class__" = some (some (.builtin "object.__class__"))
  ob : PySem.W.mroIn K C (.type "object") = some true
  ba : PySem.W.mroIn K C (.type "BaseException") = some true
  ck : (PySem.W.clsIn K C).isSome = true
  ty : PySem.W.typeIn K (.ref C) = some (.type "type")
  ex : PySem.W.excIn K C [.type "ValueError", .type "Exception", .type "BaseException", .type "object"] "ValueError.__new__" = true
section
variable {prog : Program} {w : World} {A : Around} {E : Value → Shared → Prop} {K : PySem.W.Frag} {a C : Addr} {oe : Obj}
open PySem.W in
theorem exc_get {h : Heap} {g : Array GenState} {d : Drawn} {t : Nat} {os : OsState} {R : Result → Shared → Prop} (c : ExC K C) (X : K.In h) (hx : h.get? a = some oe) (hc : oe.cls = .ref C) (hq : R (.ok (.ret (.ref C))) ⟨h, g, d, t, os⟩) :
    codeAny (model prog w) A (.call (.builtin "getset_descriptor.__get__") ⟨[.builtin "object.__class__", .ref a, .ref C], []⟩) R ⟨h, g, d, t, os⟩ := by
  have L0 : Looks (model prog w) h (typeOf (.ref a)) (.ref C) := hc ▸ (Looks.ld hx).andThen .now
  have hT5 : (⟨h, g, d, t, os⟩ : Shared).TypeIs (.builtin "object.__class__") "getset_descriptor" := F.typeOf_object_class
  have L1 : Looks (model prog w) h (isSubtype (.ref C) (.type (".".intercalate ("object.__class__".cutAt '.').dropLast))) true := by rw [F.owner_object_class]; exact looks_mroIn X c.ob
  refine codeAny_call_builtin F.slot_gs_get.plain F.entry_gs_get (F.slot_gs_get.check _ _ _ _ _ _ _ _ hT5 (F.args_gs_get _ _ _) ?_)
  repeat (any_goals (first | assumption | with_reducible refine L0.at ?_ | with_reducible refine L1.at ?_ | (with_reducible refine wpAny_loadPart_at hx ?_; rw [hc]) | wp_step))
  refine ⟨Code.quiet_builtin _ (by decide +kernel), codeAny_builtin F.entry_object_class ?_⟩
  repeat (any_goals (first | assumption | with_reducible refine L0.at ?_ | (with_reducible refine wpAny_loadPart_at hx ?_; rw [hc]) | wp_step))
open PySem.W in
theorem exc_entry {h : Heap} {g : Array GenState} {d : Drawn} {t : Nat} {os : OsState} {tk : Tok} {Q : Fin → Shared → Prop} (c : ExC K C) (X : K.In h) (hx : h.get? a = some oe) (hc : oe.cls = .ref C) (hq : Q (.done (.ret (.ref C))) ⟨h, g, d, t, os⟩) :
    wpAny (model prog w) A (Builtin.«object.__getattribute__» ⟨[.ref a, .str "__class__" tk], []⟩) Q E ⟨h, g, d, t, os⟩ := by
  have L0 : Looks (model prog w) h (typeOf (.ref a)) (.ref C) := hc ▸ (Looks.ld hx).andThen .now
  have L1 := looks_findIn (M := model prog w) X c.cl
  have f5 := F.typeOf_object_class
  have f6 := F.slot_gs_get.lookup
  have f7 := F.slot_gs_set.lookup
  have hT5 : (⟨h, g, d, t, os⟩ : Shared).TypeIs (.builtin "object.__class__") "getset_descriptor" := F.typeOf_object_class
  repeat (any_goals (first | assumption | with_reducible refine L0.at ?_ | with_reducible refine L1.at ?_ | (with_reducible refine wpAny_loadPart_at hx ?_; rw [hc]) | wp_step))
  refine exc_get c X hx hc ?_
  repeat (any_goals (first | assumption | wp_step))
open PySem.W in
theorem exc_check {M : Model} {h : Heap} {g : Array GenState} {d : Drawn} {t : Nat} {os : OsState} {nameV : Value} {Q : Unit → Shared → Prop} (c : ExC K C) (X : K.In h) (hx : h.get? a = some oe) (hc : oe.cls = .ref C) (hq : Q () ⟨h, g, d, t, os⟩) :
    wpAny M A (checkBuiltinCall "BaseException.__getattribute__" ⟨[.ref a, nameV], []⟩) Q E ⟨h, g, d, t, os⟩ := by
  have hk : builtinKind "BaseException.__getattribute__" = some .slot := by decide +kernel
  have hsplit : splitId "BaseException.__getattribute__" = some ("BaseException", "__getattribute__") := by decide +kernel
  have L1 := looks_mroIn (M := M) X c.ba
  have ha := F.args_bexc_ga (.ref a) nameV
  simp only [checkBuiltinCall, hk, hsplit]
  refine wpAny_bind ?_
  · unfold isInstance
    repeat (first | (with_reducible refine wpAny_loadPart_at hx ?_; rw [hc]) | with_reducible refine L1.at ?_ | wp_step)
    exact hq
open PySem.W in
theorem exc_by {h : Heap} {g : Array GenState} {d : Drawn} {t : Nat} {os : OsState} {tk : Tok} {Q : Value → Shared → Prop} (c : ExC K C) (X : K.In h) (hx : h.get? a = some oe) (hc : oe.cls = .ref C) (hq : Q (.ref C) ⟨h, g, d, t, os⟩) :
    wpAny (model prog w) A (getAttrBy (.ref a) (.str "__class__" tk) false) Q E ⟨h, g, d, t, os⟩ := by
  have L0 : Looks (model prog w) h (typeOf (.ref a)) (.ref C) := hc ▸ (Looks.ld hx).andThen .now
  have L1 := looks_findIn (M := model prog w) X c.ga
  have L2 := looks_findIn (M := model prog w) X c.gn
  have f3 := F.attr_ValueError.ga.bind (.ref a)
  have hx2 : (Value.builtin "BaseException.__getattribute__" == Value.builtin "object.__getattribute__") = false := by decide +kernel
  have hx1 : (onTheHeap (Value.ref C) && Value.builtin "BaseException.__getattribute__" == Value.builtin "object.__getattribute__") = false := by rw [hx2]; rfl
  repeat (any_goals (first | assumption | with_reducible refine L0.at ?_ | with_reducible refine L1.at ?_ | with_reducible refine L2.at ?_ | (with_reducible refine wpAny_loadPart_at hx ?_; rw [hc]) | wp_step))
  refine codeAny_call_builtin F.attr_ValueError.ga.plain F.entry_bexc_ga (exc_check c X hx hc (exc_entry c X hx hc ?_))
  repeat (any_goals (first | assumption | wp_step))
open PySem.W in
theorem exc_attr {h : Heap} {g : Array GenState} {d : Drawn} {t : Nat} {os : OsState} {Q : Option Value → Shared → Prop} (c : ExC K C) (X : K.In h) (hx : h.get? a = some oe) (hc : oe.cls = .ref C) (hq : Q (some (.ref C)) ⟨h, g, d, t + 1, os⟩) :
    wpAny (model prog w) A (getAttr? (.ref a) "__class__") Q E ⟨h, g, d, t, os⟩ := by
  unfold getAttr? getAttrBy?
  repeat (any_goals (first | assumption | with_reducible apply exc_by c X hx hc | wp_step))
open PySem.W in
theorem kitx_exc (c : ExC K C) : KitX K (.ref a) (.ref C) (fun h => ∃ oe, h.get? a = some oe ∧ oe.cls = .ref C) where
  ty := fun _ _ _ ⟨_, hx, hc⟩ => hc ▸ (Looks.ld hx).andThen .now
  it := fun _ _ X _ => by
    have ck := c.ck
    unfold clsIn at ck
    split at ck
    · rename_i c' d' cd' sl' ho
      intro A' Q' E' s' k q
      unfold isType loadHead
      exact wpAny_bind (wpAny_loadPart (k _ _ (X _ _ ho)) (wpAny_pure q))
    · cases ck
  ne := fun h tp dd its n sl X htp => by
    have ck := c.ck
    refine Bool.eq_false_iff.mpr fun q => ?_
    have e : C = tp := Value.ref.inj (beq_iff_eq.mp q)
    subst e
    unfold clsIn at ck
    split at ck
    · rename_i c' d' cd' sl' ho
      have z := (X _ _ ho).symm.trans htp
      cases z
    · cases ck
  ca := fun {_ _ _ _ _ s} X ⟨_, hx, hc⟩ k => by
    obtain ⟨h, g, d, t, os⟩ := s
    exact exc_attr c X hx hc k
open PySem.W in
theorem exc_matches {M : Model} {h : Heap} {g : Array GenState} {d : Drawn} {t : Nat} {os : OsState} {S : Addr} {Q : Bool → Shared → Prop} (s : ExC K S) (X : K.In h) (hx : h.get? a = some oe) (hc : oe.cls = .ref C)
    (hm : mroIn K C (.ref S) = some true) (hq : Q true ⟨h, g, d, t, os⟩) : wpAny M A (excMatches (.ref a) (.ref S)) Q E ⟨h, g, d, t, os⟩ := by
  have L0 : Looks M h (typeOf (.ref a)) (.ref C) := hc ▸ (Looks.ld hx).andThen .now
  have L1 := looks_mroIn (M := M) X hm
  have L2 := looks_mroIn (M := M) X s.ba
  have L3 := looks_typeIn (M := M) X s.ty
  have L4 : Looks M h (isInstance (.ref S) (.type "tuple")) false := L3.andThen (Looks.of_pure tc_notTuple)
  have ck := s.ck
  unfold clsIn at ck
  split at ck
  · rename_i c' d' cd' sl' ho
    have L5 : Looks M h (isExcClass (.ref S)) true := by
      intro A' Q' E' s' k q
      unfold isExcClass isType loadHead
      refine wpAny_bind (wpAny_bind (wpAny_loadPart (k _ _ (X _ _ ho)) (wpAny_pure ?_)))
      exact (L2.keeps k).at (g := s'.gens) (d := s'.drawn) (tk := s'.toks) (os := s'.os) q
    unfold excMatches
    repeat (first | with_reducible refine L4.at ?_ | with_reducible refine L5.at ?_ | with_reducible refine L0.at ?_ | with_reducible refine L1.at ?_ | wp_step)
    exact hq
  · cases ck
end
end L2
namespace L2
open PySem PySem.Spec PyProof.Rows
def Thrown (X : Cx) (E : XK) : Prop := ∀ (pins : List (Addr × Obj)) (σ : St) (H : Hp) (s : Shared) (h1 : Heap) (a C : Addr) (as : List Value), Inv X pins σ H s → Heap.MadeExcOf s.heap h1 a (.ref C) as → E (.ref C) none H → X.xe (.ref a) { s with heap := h1 }
section
variable {P : Program} {w : World} {K : PySem.W.Frag} {mg : Str → Option Value} {base : Heap} {N : List Str} {qual : Str} {scope : Scope} {f : Addr} {cd : Value} {A : Around} {outer : List Env} {s : Shared} {H : Hp} {E : XK}
theorem pass1 : Passes (CX1 P w) (cxOf (CX1 P w) P w K mg base N qual scope f cd A outer s H E) E := fun _ _ _ _ _ _ I hx => cx1_next I rfl rfl rfl hx
theorem thrown1 : Thrown (cxOf (CX1 P w) P w K mg base N qual scope f cd A outer s H E) E := fun _ _ _ _ _ _ _ _ I hx q => cx1_first I rfl rfl rfl hx q
theorem Fun.ok1 {x qual : Str} {st : Stmt} {f : Addr} {fd : FuncData} {N ps : List Str} {k : Nat} {sp : Sp} (F : Fun K x qual st f fd) (S : FnScope N ps (defScope st)) (len : ∀ vs H Q E, sp vs H Q E → vs.length = ps.length)
    (hbody : ∀ (cdv : Value) (A : Around) (outer : List Env) (s : Shared) (H : Hp) (vs : List V) (Q : VK) (E : XK), Room k (A.deeper (envOfC qual (defScope st) s.heap.objs.size f cdv)) → sp vs H Q E →
      ∃ t, PSs (cxOf (CX1 P w) P w K mg base N qual (defScope st) f cdv A outer s H E) (defBody st) t ∧ t { nx := fun _ H' => Q .non H', rt := Q } (start N vs) H) : FnOk P w K mg base (CX1 P w) (k + 1) f fd ps sp := by
  obtain ⟨oc, od, kV, doc, pm, an, cdv, ct, osl, rfl, lk, hcd⟩ := F.ex
  exact fn_of lk hcd S len fun A outer s H vs Q E hr hsp => hbody cdv A outer s H vs Q E hr hsp
end

theorem exc_obj {K : PySem.W.Frag} {h : Heap} {C : Addr} {bmB : List Value} {newId : String} (X : K.In h) (q : PySem.W.excIn K C bmB newId = true) :
    ∃ bm N nm q bs hdct sn sub ab col dd k0 k1 k2 k3 k5 mN, h.get? C = some (excClassObj nm q C N bs bm hdct sn sub ab col dd k0 k1 k2 k3 k5 newId) ∧ h.Ns N mN ∧ mN "__init__" = none ∧ OwnTail h bmB bm := by
  unfold PySem.W.excIn at q
  split at q
  · rename_i dd cd sl ho
    split at q
    · rename_i C' bm k0 k1 k2 k3 n k5 hm hs
      simp only [Bool.and_eq_true, beq_iff_eq, Bool.not_eq_true'] at q
      obtain ⟨⟨⟨⟨⟨rfl, rfl⟩, hdel⟩, ht⟩, hok⟩, hni⟩ := q
      obtain ⟨nm, bs, mro, ns, qn, hd, sn, sub, ab, col, del⟩ := cd
      dsimp only at hm hdel hok hni
      subst hm hdel
      have hsl : sl = #[k0, k1, k2, k3, some (.builtin n), k5] := by
        obtain ⟨l⟩ := sl
        simp only at hs
        rw [hs]
      subst hsl
      exact ⟨bm, ns, nm, qn, bs, hd, sn, sub, ab, col, dd, k0, k1, k2, k3, k5, _, X _ _ ho, .of_isNs (PySem.W.isNs_of_in X hok), PySem.W.nsMap_none_of_in X hok hni, PySem.W.tail_of_in X ht⟩
    · cases q
  · cases q

section
variable {X : Cx} {e : Expr} {te : TE} {x : Str} {C : Addr} {E : XK} {np cpos pos : Pos}
def tRaise (C : Addr) (E : XK) (te : TE) : TS := fun _ σ H => te σ H fun _ H1 => E (.ref C) none H1
theorem ps_raise (ex : ExC X.K C) (hg : Gl X x) (hm : X.mg x = some (.ref C)) (ht : Thrown X E) (hc : X.calm = true) (he : PE X e te) (hd : (x == ("__debug__" : Str)) = false := by decide)
    (hs : starEach [e] X.env = [(false, eval e X.env)] := by rfl) : PS X (.Raise (some (.Call (.Name x np) [e] [] cpos)) none pos) (tRaise C E te) := by
  intro pins s σ H D I h
  obtain ⟨bm, N, nm, q, bs, hdct, sn, sub, ab, col, dd, k0, k1, k2, k3, k5, mN, hC, hN, hni, T⟩ := exc_obj I.ok.mod.kin ex.ex
  refine wpAny_Raise_call_subT (C := C) (nm := nm) (q := q) (N := N) (bs := bs) (bm := bm) (hdct := hdct) (sn := sn) (sub := sub) (ab := ab) (col := col) (dd := dd) (k0 := k0) (k1 := k1) (k2 := k2) (k3 := k3) (k5 := k5)
    F.excBase_ValueError (mN := mN) (T.hasType rfl) (I.ok.hd hc) (by rw [hs]; rfl) hni (ld_glob I hg hm ⟨rfl, ?_⟩ hd)
  rw [hs]
  show wpAny _ _ (evalArgs (.ref C) true ((false, eval e X.env) :: []) []) _ _ s
  refine Calls.evalArgs_plain (Calls.spliced_cons (thn (he pins s σ H _ I h) fun u s1 ⟨v, H1, I1, r, q⟩ => Calls.spliced_nil ?_))
  exact ⟨rfl, (by show 1 ≤ sizeLine; decide), I1.bk _ _ hC, hN.keeps I1.bk, T.keeps I1.bk, fun h' a hx => ht pins σ H1 s1 h' a C [u] I1 hx q⟩

def PB (X : Cx) (e : Expr) (t : St → Hp → (Hp → Prop) → Prop) : Prop :=
  ∀ (pins : List (Addr × Obj)) (s : Shared) (σ : St) (H : Hp) (Q : Hp → Prop), Inv X pins σ H s → t σ H Q → wpAny (model X.prog X.w) X.A (eval e X.env) (fun u s' => ∃ x tk H', u = .str x tk ∧ x.length ≤ 3000 ∧ Inv X pins σ H' s' ∧ Q H') X.xe s
theorem pb_int {p : Pos} (he : PE X e te) : PB X (.FormattedValue e (-1) none p) (fun σ H Q => te σ H fun v H1 => ∃ i, v = .int i ∧ i.natAbs.log2 < 1920 ∧ Q H1) := by
  intro pins s σ H Q I h
  refine FormattedValue_plain (thn (he pins s σ H _ I h) fun u s1 ⟨v, H1, I1, r, i, ev, lg, q⟩ => ?_)
  subst ev
  obtain ⟨t, rfl⟩ := r
  refine formatField_int_small lg ⟨_, _, H1, rfl, ?_, I1.tok _, q⟩
  have := int_text_length_le (k := 1920) (by decide) lg
  rw [PySem.ofString_length]
  omega
theorem pb_lit {x : Str} {j p} (hx : x.length ≤ 3000 := by decide) : PB X (.Constant (.str x) j p) (fun _ H Q => Q H) := fun pins s σ H Q I h => Calls.Constant_str ⟨_, _, H, rfl, hx, I.tok _, h⟩
inductive PBs (X : Cx) : Nat → List Expr → (St → Hp → (Hp → Prop) → Prop) → Prop where
  | nil : PBs X 0 [] (fun _ H Q => Q H)
  | cons {n e es te ts} : PB X e te → PBs X n es ts → PBs X (n + 1) (e :: es) (fun σ H Q => te σ H fun H1 => ts σ H1 Q)
theorem pbs_run {n : Nat} {es : List Expr} {ts : St → Hp → (Hp → Prop) → Prop} (h : PBs X n es ts) : ∀ {pins : List (Addr × Obj)} {s : Shared} {σ : St} {H : Hp} {acc : Str} {Q : Hp → Prop}, Inv X pins σ H s → acc.length + 3000 * n ≤ sizeLine → ts σ H Q →
    wpAny (model X.prog X.w) X.A (joinParts acc (evalEach es X.env)) (fun u s' => ∃ x tk H', u = .str x tk ∧ Inv X pins σ H' s' ∧ Q H') X.xe s := by
  induction h with
  | nil => intro pins s σ H acc Q I z q; exact joinParts_nil ⟨_, _, H, rfl, I.tok _, q⟩ (by omega)
  | cons he hs ih =>
    intro pins s σ H acc Q I z q
    refine joinParts_cons (wpAny_mono (he pins s σ H _ I q) (fun u s1 h1 => ?_) fun _ _ y => y)
    obtain ⟨y, tk, H1, rfl, l, I1, q1⟩ := h1
    have e : (acc ++ y).length = acc.length + y.length := strLen_append ..
    exact ⟨by omega, ih I1 (by omega) q1⟩
theorem pe_fstrB {n : Nat} {e1 e2 : Expr} {es : List Expr} {ts : St → Hp → (Hp → Prop) → Prop} {p : Pos} (h : PBs X n (e1 :: e2 :: es) ts) (hn : n ≤ 100 := by decide) :
    PE X (.JoinedStr (e1 :: e2 :: es) p) (fun σ H Q => ts σ H fun H1 => ∀ x, Q (.str x) H1) := by
  intro pins s σ H Q I q
  have z : (Str.empty).length + 3000 * n ≤ sizeLine := by
    have e : (Str.empty).length = 0 := rfl
    rw [e, sizeLine_eq]
    omega
  refine JoinedStr_many (wpAny_mono (pbs_run h I z q) (fun u s1 h1 => ?_) fun _ _ y => y)
  obtain ⟨x, tk, H1, rfl, I1, q1⟩ := h1
  exact ⟨.str x, H1, I1, ⟨tk, rfl⟩, q1 x⟩
end
end L2
namespace L2
open PySem PySem.Spec PyProof.Rows
abbrev Cx.re (X : Cx) (A : Around) (calm : Bool) (pn : List (Addr × Obj)) (xe : Value → Shared → Prop) : Cx := { X with A := A, calm := calm, pn := pn, xe := xe }
theorem Cx.Ok.re {X : Cx} (ok : X.Ok) {A : Around} {calm : Bool} {pn : List (Addr × Obj)} {xe : Value → Shared → Prop} (hf : A.frames = X.A.frames) (hc : calm = true → A.handled = none) : (X.re A calm pn xe).Ok :=
  ⟨ok.mod, ok.kind, ok.glob, ok.blt, ok.above, ok.inj, ok.has, ok.cab, hc, hf.trans ok.frames, ok.stk, ok.exf, ok.bs, ok.bsz, ok.noex, ok.exfs, ok.funs, ok.frf⟩
theorem Cx.Ok.unre {X : Cx} {A : Around} {calm : Bool} {pn : List (Addr × Obj)} {xe : Value → Shared → Prop} (ok : (X.re A calm pn xe).Ok) (hf : A.frames = X.A.frames) (hc : X.calm = true → X.A.handled = none) : X.Ok :=
  ⟨ok.mod, ok.kind, ok.glob, ok.blt, ok.above, ok.inj, ok.has, ok.cab, hc, hf.symm.trans ok.frames, ok.stk, ok.exf, ok.bs, ok.bsz, ok.noex, ok.exfs, ok.funs, ok.frf⟩
section
variable {X : Cx} {pins pins' pn : List (Addr × Obj)} {σ : St} {H : Hp} {s : Shared} {A : Around} {calm : Bool} {xe : Value → Shared → Prop}
theorem Inv.re (I : Inv X pins σ H s) (hf : A.frames = X.A.frames) (hc : calm = true → A.handled = none)
    (hp : ∀ p ∈ pn ++ pins', p ∈ X.pn ++ pins ∨ (s.heap.get? p.1 = some p.2 ∧ H p.1 = none ∧ p.1 ≠ X.env.locals ∧ p.1 ∉ X.fs ∧ ∀ v, p.2.data ≠ .cell v)) : Inv (X.re A calm pn xe) pins' σ H s :=
  ⟨I.ok.re hf hc, I.os, I.bare, I.base, I.loc, I.cell, I.free, I.freeC, fun p h => (hp p h).elim (fun z => I.pin p z) fun z => z, I.hok, I.len⟩
theorem Inv.unre (I : Inv (X.re A calm pn xe) pins' σ H s) (hf : A.frames = X.A.frames) (hc : X.calm = true → X.A.handled = none) (hp : ∀ p ∈ X.pn ++ pins, p ∈ pn ++ pins') : Inv X pins σ H s :=
  ⟨I.ok.unre hf hc, I.os, I.bare, I.base, I.loc, I.cell, I.free, I.freeC, fun p h => I.pin p (hp p h), I.hok, I.len⟩

theorem name_goes {M : Model} {B : Around} {E : Value → Shared → Prop} {Q : Unit → Shared → Prop} {n : Str} {i : Nat} {pos : Pos} (I : Inv X pins σ H s) (hN : X.N.Nodup) (hi : X.N[i]? = some n) (hl : X.env.scope.names.lookup n = some .local)
    (h : ∀ s', Inv X pins (σ.set i none) H s' → Q () s') : wpAny M B (do bindName X.env n .none; unbindBehindTheSuite X.env n pos) Q E s := by
  obtain ⟨m, hn, hlk⟩ := id I.loc
  have hcls : (X.env.scope.kind == .class || (X.env.scope.kind == .module && X.env.locals != X.env.globals)) = false := by rw [I.ok.kind]; rfl
  have hiσ : i < σ.length := by rw [I.len]; exact (List.getElem?_eq_some_iff.mp hi).1
  refine wpAny_nameGoes_keeps hl hn hcls fun h' v hn' hs => h _ ?_
  obtain ⟨oL, _, _, hoL, _⟩ := id hn
  have neL : ∀ b o, X.s₀.heap.get? b = some o → b ≠ X.env.locals := fun b o e => Nat.ne_of_lt (Nat.lt_of_lt_of_le (Heap.lt_size e) I.ok.above)
  refine ⟨I.ok, I.os, I.bare, ⟨fun b o e n hb hx => (hs.2 b (neL b o e)).trans (I.base.keep b o e n hb hx), fun b o e n hb hx => ?_, I.base.free, fun b o e hx => ?_, I.base.tups, I.base.frzs, I.base.tbls⟩, ⟨_, hn', fun j y v' e1 e2 e3 => ?_⟩, fun y c e => ?_, I.free, I.freeC, fun p hp => ?_, ?_, by simpa using I.len⟩
  · obtain ⟨sl, e1⟩ := I.base.slot b o e n hb hx
    exact ⟨sl, (hs.2 b (neL b o e)).trans e1⟩
  · obtain ⟨o', e1⟩ := I.base.there b o e hx
    exact ⟨o', (hs.2 b (neL b o e)).trans e1⟩
  · by_cases hj : j = i
    · subst hj
      rw [List.getElem?_set_self hiσ] at e2
      cases e2
    · rw [List.getElem?_set_ne (Ne.symm hj)] at e2
      obtain ⟨u', r', q⟩ := hlk j y v' e1 e2 e3
      refine ⟨u', r', ?_⟩
      rcases q with ⟨k, e⟩ | ⟨k, c, e, z⟩
      · refine .inl ⟨k, ?_⟩
        have : y ≠ n := fun e => hj (nodup_ix hN e1 (e ▸ hi))
        simp [this, e]
      · exact .inr ⟨k, c, e, z.sameBut hs (I.cne y c e)⟩
  · obtain ⟨w', z⟩ := I.cell y c e
    exact ⟨w', z.sameBut hs (I.cne y c e)⟩
  · obtain ⟨e, n, ne, nf, d⟩ := I.pin p hp
    exact ⟨(hs.2 p.1 ne).trans e, n, ne, nf, d⟩
  · intro b ob e
    refine (I.hok b ob e).stay (fun c w' hc q => (hs.2 c ?_).trans q) (fun _ q => q) fun _ _ q => q
    rintro rfl
    have fr := I.free
    rcases hc with rfl | hc
    · rw [fr] at e; cases e
    · rw [fr] at hc; cases hc
end

def Ends.sans (D : Ends) (i : Nat) : Ends := { nx := fun σ H => D.nx (σ.set i none) H, rt := D.rt, bk := fun σ H => D.bk (σ.set i none) H, ct := fun σ H => D.ct (σ.set i none) H }
def blank (N : List Str) : St := List.replicate N.length none
def xTry (K : PySem.W.Frag) (N : List Str) (S : Addr) (i : Nat) (ts : Addr → Addr → TS) (D : Ends) : XK := fun cv _ H' =>
  ∃ C, cv = .ref C ∧ PySem.W.mroIn K C (.ref S) = some true ∧ ∀ a, H' a = none → ts a C (D.sans i) ((blank N).set i (some (.ref a))) H'
section
variable {X : Cx} {body suite : List Stmt} {b₀ : Stmt} {n x : Str} {i : Nat} {S : Addr} {np hpos pos : Pos} {tb : XK → TS} {ts : Addr → Addr → TS}
theorem ps_try (hst : X.stack = X.env :: X.outer) (hfr : X.env.frame = some X.env.locals)
    (hN : X.N.Nodup) (hi : X.N[i]? = some n) (hl : X.env.scope.names.lookup n = some .local) (hg : Gl X x) (hm : X.mg x = some (.ref S)) (eS : ExC X.K S)
    (hb : ∀ (pn : List (Addr × Obj)) (xe : Value → Shared → Prop) (E : XK), Passes (CX1 X.prog X.w) (X.re X.A X.calm pn xe) E → PSs (X.re X.A X.calm pn xe) body (tb E))
    (hs : ∀ (pn : List (Addr × Obj)) (a : Addr) (oe : Obj) (C : Addr), (a, oe) ∈ pn → oe.cls = .ref C → PSs (X.re (X.A.mark (some (.ref a))) false pn fun _ _ => False) (b₀ :: suite) (ts a C))
    (hd : (x == ("__debug__" : Str)) = false := by decide) :
    PS X (.Try body [.ExceptHandler (some (.Name x np)) (some n) (b₀ :: suite) hpos] [] [] pos) (fun D σ H => tb (xTry X.K X.N S i ts D) D σ H) := by
  intro pins s σ H D I h
  have hcalm : X.calm = true → X.A.handled = none := I.ok.hd
  refine wpAny_Try_except ?_
  refine wpAny_mono (hb (pins ++ X.pn) _ (xTry X.K X.N S i ts D) ?_ pins s σ H D (I.re rfl hcalm fun p z => .inl ?_) h) (fun f s1 q => ?_) fun _ _ z => z
  case refine_2 =>
    rcases List.mem_append.mp z with z | z
    · exact (List.mem_append.mp z).elim (List.mem_append_right _) (List.mem_append_left _)
    · exact List.mem_append_right _ z
  case refine_3 =>
    have back : ∀ {xe : Value → Shared → Prop} {σ' : St} {H' : Hp}, Inv (X.re X.A X.calm (pins ++ X.pn) xe) pins σ' H' s1 → Inv X pins σ' H' s1 := fun J => J.unre rfl hcalm fun p z =>
      (List.mem_append.mp z).elim (fun y => List.mem_append_left _ (List.mem_append_right _ y)) (List.mem_append_right _)
    cases f with
    | next =>
      obtain ⟨σ', H', J, q⟩ := q
      exact wpAny_pure ⟨σ', H', back J, q⟩
    | brk => obtain ⟨σ', H', J, q⟩ := q; exact ⟨σ', H', back J, q⟩
    | cont => obtain ⟨σ', H', J, q⟩ := q; exact ⟨σ', H', back J, q⟩
    | ret u => obtain ⟨v, σ', H', J, r, q⟩ := q; exact ⟨v, σ', H', back J, r, q⟩
  -- an error
  intro pins1 σ1 H1 s1 e s2 I1 hx
  obtain ⟨a, C, T, H', rfl, os, bare, un, hok, ⟨oe, vs, oT, ts0, a0, he, hcl, hdt, h1, hTe, hT, hdT, h3⟩, na, nT, fa, fT, C', eC, hsub, q⟩ := hx
  cases eC
  replace I1 : Inv X pins σ1 H1 s1 := I1.unre rfl hcalm fun p z => List.mem_append_left _ ((List.mem_append.mp z).elim (fun y => List.mem_append_right _ y) fun y => List.mem_append_left _ y)
  have I2 : Inv X pins σ1 H' s2 := I1.call' (ch := []) os un hok bare (fun _ z => nomatch z)
  have hfl := I2.stack
  have nos : ∀ b ∈ [a, T], H' b = none := fun b z => by
    rcases List.mem_cons.mp z with rfl | z
    · exact na
    · rw [List.mem_singleton.mp z]; exact nT
  have news : ∀ b ∈ [a, T], s1.heap.get? b = none := fun b z => by
    rcases List.mem_cons.mp z with rfl | z
    · exact fa
    · rw [List.mem_singleton.mp z]; exact fT
  have hl' := funs_hid (ch := [a, T]) hfl
  have hA : X.A.frames = some (X.env :: X.outer) := by rw [I.ok.frames, hst]
  have step : ∀ h' : Heap, (PySem.W.hideAll s2.heap ([a, T] ++ frs X.stack)).StaysIn h' → s2.heap.UpToSlots h' → Inv X pins σ1 H' { s2 with heap := h' } := fun h' k1 k4 => by
    have mv : Mv [a, T] (frs X.stack) s2.heap h' := mv_of_left k1 k4 hfl rfl
    exact I1.call' (s' := { s2 with heap := h' }) (ch := []) os (un.mv mv news) (hok.mv mv nos I2.stkFree) bare (fun _ z => nomatch z)
  have flying : Heap.FlyingW (PySem.W.hideAll s2.heap ([a, T] ++ frs X.stack)) (X.env :: X.outer) a (.ref C) a0 s2.heap := by
    refine ⟨hid_stays, PySem.W.hideAll_none _ (by simp), ?_, oe, vs, T, oT, ts0, he, hcl, hdt, h1, PySem.W.hideAll_none _ (by simp), hTe, hT, hdT, h3⟩
    rw [← hst]; exact hl'
  refine wpAny_looks_onW hA hfr flying fun h3 held3 up3 => ?_
  refine wpAny_landsW held3 fun h4 fly4 up4' => ?_
  have up4 := up3.trans up4'
  have I4 := step h4 fly4.1 up4
  obtain ⟨oe4, he4, hc4⟩ := fly4.there
  refine wpAny_handleBy_cons (codeAny_handlers_test ?_) (by intro z; cases z)
  have I4' : Inv (X.re (X.A.mark (some (.ref a))) false X.pn fun _ _ => False) [] σ1 H' { s2 with heap := h4 } :=
    I4.re rfl (fun z => nomatch z) fun p z => .inl (List.mem_append_left _ ((List.mem_append.mp z).elim id fun y => nomatch y))
  refine ld_glob I4' hg hm ?_ hd
  refine exc_matches eS I4'.kIn he4 hc4 hsub ?_
  refine codeAny_handlers_suite_as ?_
  refine lands_againW fly4 fun h5 fly5 up5' => ?_
  have up5 := up4.trans up5'
  have I5 := step h5 fly5.1 up5
  obtain ⟨oe5, vs5, he5, hc5, hd5, _⟩ := fly5.first
  have aL : a ≠ X.env.locals := fun z => by
    obtain ⟨m, ⟨o, _, _, ho, _⟩, _⟩ := I1.loc
    rw [z, show s1.heap.get? X.env.locals = some o from ho] at fa; cases fa
  have aF : a ∉ X.fs := fun z => by
    have hm2 : a ∈ frs X.stack := by
      rw [hst]
      show a ∈ (X.env :: X.outer).filterMap (·.frame)
      rw [List.filterMap_cons, hfr]
      exact List.mem_cons_of_mem _ z
    obtain ⟨_, o, ho, _⟩ := I1.stack.mem hm2
    rw [fa] at ho; cases ho
  have I5' : Inv (X.re (X.A.mark (some (.ref a))) false ((a, oe5) :: (pins ++ X.pn)) fun _ _ => False) [] (blank X.N) H' { s2 with heap := h5 } := by
    have J : Inv (X.re (X.A.mark (some (.ref a))) false ((a, oe5) :: (pins ++ X.pn)) fun _ _ => False) [] σ1 H' { s2 with heap := h5 } :=
      I5.re rfl (fun z => nomatch z) fun p z => by
        rcases List.mem_append.mp z with z | z
        · rcases List.mem_cons.mp z with rfl | z
          · exact .inr ⟨he5, na, aL, aF, fun v z => by rw [hd5] at z; cases z⟩
          · exact .inl ((List.mem_append.mp z).elim (List.mem_append_right _) (List.mem_append_left _))
        · exact nomatch z
    refine J.weak (by rw [J.len]; exact List.length_replicate) fun j v e => ?_
    unfold blank at e
    rw [List.getElem?_replicate] at e
    split at e <;> cases e
  refine store_ok (X := X.re (X.A.mark (some (.ref a))) false ((a, oe5) :: (pins ++ X.pn)) fun _ _ => False) (v := .ref a) I5' hN hi (.inl hl) rfl (fun s6 I6 => ?_) (.inr hl)
  refine wpAny_mono (hs _ a oe5 C (.head _) hc5 [] s6 _ H' (D.sans i) I6 (q a na)) (fun f s7 w7 => ?_) fun _ _ z => z.elim
  have back : ∀ {σ' : St} {H7 : Hp} {s' : Shared}, Inv (X.re (X.A.mark (some (.ref a))) false ((a, oe5) :: (pins ++ X.pn)) fun _ _ => False) [] σ' H7 s' → Inv X pins σ' H7 s' := fun J => J.unre rfl hcalm fun p z =>
    List.mem_append_left _ (List.mem_cons_of_mem _ (by
      rcases List.mem_append.mp z with z | z
      · exact List.mem_append_right _ z
      · exact List.mem_append_left _ z))
  cases f with
  | next =>
    obtain ⟨σ', H7, J, q⟩ := w7
    exact name_goes (X := X.re (X.A.mark (some (.ref a))) false ((a, oe5) :: (pins ++ X.pn)) fun _ _ => False) J hN hi hl fun s' J' => ⟨_, H7, back J', q⟩
  | brk =>
    obtain ⟨σ', H7, J, q⟩ := w7
    exact name_goes (X := X.re (X.A.mark (some (.ref a))) false ((a, oe5) :: (pins ++ X.pn)) fun _ _ => False) J hN hi hl fun s' J' => ⟨_, H7, back J', q⟩
  | cont =>
    obtain ⟨σ', H7, J, q⟩ := w7
    exact name_goes (X := X.re (X.A.mark (some (.ref a))) false ((a, oe5) :: (pins ++ X.pn)) fun _ _ => False) J hN hi hl fun s' J' => ⟨_, H7, back J', q⟩
  | ret u =>
    obtain ⟨v, σ', H7, J, r, q⟩ := w7
    exact name_goes (X := X.re (X.A.mark (some (.ref a))) false ((a, oe5) :: (pins ++ X.pn)) fun _ _ => False) J hN hi hl fun s' J' => ⟨v, _, H7, back J', r, q⟩
end
end L2
namespace L2
open PySem PySem.Spec PyProof.Rows
structure Cal1 (P : Program) (w : World) (K : PySem.W.Frag) (mg : Str → Option Value) (base : Heap) (k : Nat) (x : Str) (ps : List Str) (sp : Sp) : Prop where
  ex : ∃ f fd, FnOk P w K mg base (CX1 P w) k f fd ps sp ∧ mg x = some (.ref f) ∧ PySem.W.keepIn K (.ref f) = true ∧ Binds K fd ps []
section
variable {P : Program} {w : World} {K : PySem.W.Frag} {mg : Str → Option Value} {base : Heap}
theorem TDef.ok1 {x : Str} {st : Stmt} {N ps : List Str} {k : Nat} {sp : Sp} (D : TDef K mg x st ps) (S : FnScope N ps (defScope st)) (len : ∀ vs H Q E, sp vs H Q E → vs.length = ps.length)
    (hbody : ∀ (f : Addr) (cdv : Value) (A : Around) (outer : List Env) (s : Shared) (H : Hp) (vs : List V) (Q : VK) (E : XK), Room k (A.deeper (envOfC x (defScope st) s.heap.objs.size f cdv)) → sp vs H Q E →
      ∃ t, PSs (cxOf (CX1 P w) P w K mg base N x (defScope st) f cdv A outer s H E) (defBody st) t ∧ t { nx := fun _ H' => Q .non H', rt := Q } (start N vs) H) : Cal1 P w K mg base (k + 1) x ps sp := by
  obtain ⟨f, fd, F, hm, hb⟩ := D.ex
  exact ⟨f, fd, F.ok1 S len (hbody f), hm, F.kp, hb⟩
end
section
variable {X : Cx} {k : Nat} {C : Addr} {x m : Str} {ps : List Str} {sp : Sp} {E : XK} {p pos apos : Pos} {o e : Expr} {es : List Expr} {t : TA} {ta : TE}
theorem pe_cal1 (hx : Passes (CX1 X.prog X.w) X E) (C : Cal1 X.prog X.w X.K X.mg X.base k x ps sp) (hr : Room k X.A) (hg : Gl X x) (ha : PA X (e :: es) t)
    (hdb : (x == ("__debug__" : Str)) = false := by decide) (he : starEach (e :: es) X.env = (false, eval e X.env) :: starEach es X.env := by rfl) (hpl : (backTo pos (starEach es X.env)).any (·.1) = false := by rfl) :
    PE X (.Call (.Name x p) (e :: es) [] pos) (tCall sp [] E t) := by
  obtain ⟨f, fd, F, hm, hk, hb⟩ := C.ex
  exact pe_call F hr hg hm hk hb .nil hx ha hdb he hpl
end

theorem pe_cst {X : Cx} {x : Str} {v : V} {pos : Pos} (h : ∃ u, X.mg x = some u ∧ RelV v u) (hg : Gl X x) (hd : (x == ("__debug__" : Str)) = false := by decide) : PE X (.Name x pos) (tC v) := by
  obtain ⟨u, hm, r⟩ := h
  exact pe_glob hg hm r hd
def dB (bs : List Bool) : PyData := .list (bs.map .bool)
theorem dtAll_bools {K : PySem.W.Frag} {H : Hp} : ∀ bs : List Bool, DtAll K H (bs.map .bool) (bs.map V.bl)
  | [] => by unfold DtAll; rfl
  | b :: r => by
    rw [List.map_cons, List.map_cons]
    unfold DtAll
    exact ⟨_, _, rfl, (by unfold Dt; rfl), dtAll_bools r⟩
theorem dt_B {K : PySem.W.Frag} {H : Hp} {a : Addr} {bs : List Bool} (h : SqL K H a (bs.map V.bl)) : Dt K H (dB bs) (.ref a) := by
  unfold dB Dt
  exact ⟨a, _, rfl, h, dtAll_bools bs⟩
theorem eqv_B (xs ys : List Bool) : PyData.eqv (dB xs) (dB ys) = decide (xs = ys) := by
  unfold dB
  simp only [PyData.eqv]
  refine eqvAll_map (fun x y => ?_) xs ys
  cases x <;> cases y <;> rfl
theorem lay_B (bs : List Bool) : (dB bs).canLay0 = true := by
  unfold dB
  simp only [PyData.canLay0]
  exact layAll_map (fun x => by simp [PyData.canLay0]) bs
theorem dep_B (bs : List Bool) : (dB bs).depth ≤ 1 := by
  unfold dB
  simp only [PyData.depth]
  have := depAll_map (f := PyData.bool) (n := 0) (fun x => by simp [PyData.depth]) bs
  omega
theorem shaped_B (bs : List Bool) : SeqAt.shaped (dB bs) = true := shaped_of (lay_B bs) (dep_B bs) (by decide)
abbrev errNames : List Str := ["ShelfError", "NoBook", "NoTurn", "NoOrder", "NoWish", "FullShelf", "BadLine"]
open PySem.W in
def errOk (K : Frag) (cs : List Addr) (i : Nat) : Bool :=
  match cs[i]? with
  | none => false
  | some C => findIn K (.ref C) "__getattribute__" == some (some (.builtin "BaseException.__getattribute__")) && findIn K (.ref C) "__getattr__" == some none && findIn K (.ref C) "__class__" == some (some (.builtin "object.__class__")) &&
    mroIn K C (.type "object") == some true && mroIn K C (.type "BaseException") == some true && (clsIn K C).isSome && typeIn K (.ref C) == some (.type "type") &&
    excIn K C [.type "ValueError", .type "Exception", .type "BaseException", .type "object"] "ValueError.__new__" && kitOne K (.ref C) (.type "ValueError") == some true &&
    (List.range cs.length).all fun j => match cs[j]? with
      | none => false
      | some D => kitOne K (.ref C) (.ref D) == some (decide (i = j) || decide (j = 0)) && mroIn K C (.ref D) == some (decide (i = j) || decide (j = 0))
structure Errs (K : PySem.W.Frag) (mg : Str → Option Value) : Prop where
  g : ∀ x ∈ errNames, mg x = some (.ref (aCls mg x))
  ok : ∀ i, i < 7 → errOk K (errNames.map (aCls mg)) i = true
open PySem.W in
theorem errOk_at {K : Frag} {cs : List Addr} {i : Nat} {C : Addr} (e : cs[i]? = some C) (h : errOk K cs i = true) : ExC K C ∧ kitOne K (.ref C) (.type "ValueError") = some true ∧
    ∀ j D, cs[j]? = some D → kitOne K (.ref C) (.ref D) = some (decide (i = j) || decide (j = 0)) ∧ mroIn K C (.ref D) = some (decide (i = j) || decide (j = 0)) := by
  unfold errOk at h
  rw [e] at h
  simp only [Bool.and_eq_true, beq_iff_eq, List.all_eq_true, List.mem_range] at h
  obtain ⟨⟨⟨⟨⟨⟨⟨⟨⟨h1, h2⟩, h3⟩, h4⟩, h5⟩, h6⟩, h7⟩, h8⟩, h9⟩, h10⟩ := h
  refine ⟨⟨h1, h2, h3, h4, h5, h6, h7, h8⟩, h9, fun j D ej => ?_⟩
  have z := h10 j (List.getElem?_eq_some_iff.mp ej).1
  rw [ej] at z
  simpa using z
section
variable {K : PySem.W.Frag} {mg : Str → Option Value}
theorem Errs.ex (T : Errs K mg) {i : Nat} {x : Str} (e : errNames[i]? = some x) : ExC K (aCls mg x) := by
  have hi : i < 7 := (List.getElem?_eq_some_iff.mp e).1
  exact (errOk_at (by rw [List.getElem?_map, e]; rfl) (T.ok i hi)).1
theorem Errs.val (T : Errs K mg) {i : Nat} {x : Str} (e : errNames[i]? = some x) : PySem.W.kitOne K (.ref (aCls mg x)) (.type "ValueError") = some true := by
  have hi : i < 7 := (List.getElem?_eq_some_iff.mp e).1
  exact (errOk_at (by rw [List.getElem?_map, e]; rfl) (T.ok i hi)).2.1
theorem Errs.kit (T : Errs K mg) {i j : Nat} {x y : Str} (e : errNames[i]? = some x) (e' : errNames[j]? = some y) : PySem.W.kitOne K (.ref (aCls mg x)) (.ref (aCls mg y)) = some (decide (i = j) || decide (j = 0)) := by
  have hi : i < 7 := (List.getElem?_eq_some_iff.mp e).1
  exact ((errOk_at (by rw [List.getElem?_map, e]; rfl) (T.ok i hi)).2.2 j _ (by rw [List.getElem?_map, e']; rfl)).1
theorem Errs.sub (T : Errs K mg) {i : Nat} {x : Str} (e : errNames[i]? = some x) : PySem.W.mroIn K (aCls mg x) (.ref (aCls mg "ShelfError")) = some true := by
  have hi : i < 7 := (List.getElem?_eq_some_iff.mp e).1
  have := ((errOk_at (by rw [List.getElem?_map, e]; rfl) (T.ok i hi)).2.2 0 _ (by rw [List.getElem?_map]; rfl)).2
  rw [this]
  simp
end
def clsV : V → Value
  | .ref D => .ref D
  | .ty n => .type n
  | _ => .none
def isClsV : V → Bool
  | .ref _ => true
  | .ty _ => true
  | _ => false
theorem clsV_rel {y : V} {u : Value} (h : isClsV y = true) (r : RelV y u) : u = clsV y := by
  cases y <;> first | exact r | cases h
theorem call_isExc {X : Cx} {a C : Addr} {oe : Obj} (hp : (a, oe) ∈ X.pn) (hc : oe.cls = .ref C) : CallR X (.builtin "isinstance") (fun xs H Q => ∃ y b, xs = [.ref a, y] ∧ isClsV y = true ∧ ExC X.K C ∧ PySem.W.kitOne X.K (.ref C) (clsV y) = some b ∧ Q (.bl b) H) := by
  intro pins s σ H xs us Q I r h
  obtain ⟨y, b, rfl, hy, ex, e, q⟩ := h
  obtain ⟨u, v, rfl, ru, rv⟩ := vals2 r
  cases (show u = Value.ref a from ru)
  cases clsV_rel hy rv
  have pn := I.pin (a, oe) (List.mem_append_left _ hp)
  exact PySem.W.kia_one (kitx_exc ex) I.kIn ⟨oe, pn.1, hc⟩ e (fun z => nomatch z) fun tk => ⟨.bl b, H, I.tok tk, rfl, q⟩
theorem k_isExc {X : Cx} {K : PySem.W.Frag} {a C : Addr} {oe : Obj} (hK : X.K = K) (hp : (a, oe) ∈ X.pn) (hc : oe.cls = .ref C) : CallR X (.builtin "isinstance") (fun xs H Q => ∃ y b, xs = [.ref a, y] ∧ isClsV y = true ∧ ExC K C ∧ PySem.W.kitOne K (.ref C) (clsV y) = some b ∧ Q (.bl b) H) := by
  subst hK
  exact call_isExc hp hc
end L2
namespace L2
open PySem PySem.Spec PyProof.Rows
section
variable {X : Cx} {e : Expr} {te : TE}
end
end L2

namespace Sh
open PySem
theorem str_ext {a b : Str} (h : a.cps.toList = b.cps.toList) : a = b := by
  cases a
  cases b
  congr 1
  exact Array.toList_inj.mp h
theorem str_app (a b : Str) : (a ++ b).cps.toList = a.cps.toList ++ b.cps.toList := by
  show (a.cps ++ b.cps).toList = _
  simp
theorem join_two (c : Nat) (a b : Str) (r : List Str) : (Str.join ⟨#[c]⟩ (a :: b :: r)).cps.toList = a.cps.toList ++ c :: (Str.join ⟨#[c]⟩ (b :: r)).cps.toList := by
  show (a ++ (⟨#[c]⟩ : Str) ++ Str.join ⟨#[c]⟩ (b :: r)).cps.toList = _
  rw [str_app, str_app]
  simp
def figs (w : List Int) : Str := ⟨(w.map fun b => 49 + b.toNat).toArray⟩
def word (w : List Int) : Str := if w = [] then ⟨#[45]⟩ else figs w
def hd (m : Nat) : Str := ⟨#[48 + m, 58]⟩
theorem figs_list (w : List Int) : (figs w).cps.toList = w.map fun b => 49 + b.toNat := by unfold figs; simp
theorem figs_len (w : List Int) : (figs w).length = w.length := by unfold figs; simp [Str.length]
theorem join_figs {e : Str} (he : e.cps.toList = []) : ∀ w : List Int, Str.join e (w.map fun b => figs [b]) = figs w
  | [] => rfl
  | [b] => rfl
  | b :: d :: r => by
    have ih := join_figs he (d :: r)
    refine str_ext ?_
    show (figs [b] ++ e ++ Str.join e ((d :: r).map fun b => figs [b])).cps.toList = _
    rw [str_app, str_app, ih, he, figs_list, figs_list, figs_list]
    rfl
def text (m : Nat) (ws : List (List Int)) : Str := Str.join ⟨#[32]⟩ (hd m :: ws.map word)
theorem eight {P : Int → Prop} (h : P 0 ∧ P 1 ∧ P 2 ∧ P 3 ∧ P 4 ∧ P 5 ∧ P 6 ∧ P 7) {b : Int} (h0 : 0 ≤ b) (h8 : b < 8) : P b := by
  obtain ⟨h1, h2, h3, h4, h5, h6, h7, h9⟩ := h
  have : b = 0 ∨ b = 1 ∨ b = 2 ∨ b = 3 ∨ b = 4 ∨ b = 5 ∨ b = 6 ∨ b = 7 := by omega
  rcases this with rfl | rfl | rfl | rfl | rfl | rfl | rfl | rfl <;> assumption
theorem fig_index {b : Int} (h0 : 0 ≤ b) (h8 : b < 8) : Builtin.Str.occurrences (Str.ofString "12345678") (figs [b]) 0 (Str.ofString "12345678").length 1 = [b.toNat] :=
  eight (P := fun b => Builtin.Str.occurrences (Str.ofString "12345678") (figs [b]) 0 (Str.ofString "12345678").length 1 = [b.toNat]) (by decide +kernel) h0 h8
theorem fig_at {b : Int} (h0 : 0 ≤ b) (h8 : b < 8) : (Str.ofString "12345678").cps.toList[b.toNat]? = some (49 + b.toNat) :=
  eight (P := fun b => (Str.ofString "12345678").cps.toList[b.toNat]? = some (49 + b.toNat)) (by decide +kernel) h0 h8
theorem fig_cut {m : Nat} (h1 : 1 ≤ m) (h8 : m ≤ 8) : Txt.slice (Str.ofString "12345678") none (some (m : Int)) = figs (rangeI m) := by
  have : m = 1 ∨ m = 2 ∨ m = 3 ∨ m = 4 ∨ m = 5 ∨ m = 6 ∨ m = 7 ∨ m = 8 := by omega
  rcases this with rfl | rfl | rfl | rfl | rfl | rfl | rfl | rfl <;> decide +kernel
theorem hd_told {m : Nat} (h1 : 1 ≤ m) (h8 : m ≤ 8) : Str.ofString (toString (m : Int)) ++ Str.ofString ":" = hd m := by
  have : m = 1 ∨ m = 2 ∨ m = 3 ∨ m = 4 ∨ m = 5 ∨ m = 6 ∨ m = 7 ∨ m = 8 := by omega
  rcases this with rfl | rfl | rfl | rfl | rfl | rfl | rfl | rfl <;> decide +kernel
end Sh
namespace L2
open PySem PySem.Spec PyProof.Rows
def Its (x : Str) : It := ⟨fun i _ => i < x.cps.size, fun i H v H' => H' = H ∧ ∃ c, x.cps[i]? = some c ∧ v = .str ⟨#[c]⟩, fun i _ => x.cps.size ≤ i⟩
def strIt (b : Bool) : String := if b then "str_ascii_iterator" else "str_iterator"
theorem turn_str {P : Program} {w : World} {K : PySem.W.Frag} {tg : Expr} (b : Bool) (x : Str) (t : Tok) (it : Addr) : Turn P w K tg (Its x) [it] it (fun i h => h.IsStrIter it (strIt b) x t i) where
  mem := by simp
  obj := fun i h st c hb => by
    obtain rfl : c = it := by simpa using hb
    obtain ⟨o, e, _, d⟩ := st
    exact ⟨o, e, fun v z => by rw [d] at z; cases z⟩
  keep := fun i h h' st k => by
    obtain ⟨o, e, r⟩ := st
    exact ⟨o, k it (by simp) o e, r⟩
  item := by
    intro X hP hw hK hc i pins s σ H E I hf st hg
    subst hP hw hK
    obtain ⟨f0, f1, f2, f3, f4, f5⟩ := hf it (by simp)
    have hi : i < x.cps.size := hg
    obtain ⟨c, hcx⟩ : ∃ c, x.cps[i]? = some c := ⟨x.cps[i], by simp [hi]⟩
    cases b
    · refine wpAny_pyNext_wide_item st hcx fun h' st' sb => ?_
      have I1 : Inv X pins σ H { s with heap := h', toks := s.toks + 1 } := I.turned (fun b o hb e => (sb.2 b hb).trans e) f0 f1 f3 f4 f5
      obtain ⟨o, e, cc, d⟩ := id st'
      exact ⟨_, rfl, go_of (s := { s with heap := h', toks := s.toks + 1 }) e cc d (by decide) ⟨.str ⟨#[c]⟩, H, I1, ⟨_, rfl⟩, ⟨rfl, c, hcx, rfl⟩, st', fun b hb => (hf b hb).1⟩⟩
    · refine wpAny_pyNext_ascii_item st hcx fun h' st' sb => ?_
      have I1 : Inv X pins σ H { s with heap := h', toks := s.toks + 1 } := I.turned (fun b o hb e => (sb.2 b hb).trans e) f0 f1 f3 f4 f5
      obtain ⟨o, e, cc, d⟩ := id st'
      exact ⟨_, rfl, go_of (s := { s with heap := h', toks := s.toks + 1 }) e cc d (by decide) ⟨.str ⟨#[c]⟩, H, I1, ⟨_, rfl⟩, ⟨rfl, c, hcx, rfl⟩, st', fun b hb => (hf b hb).1⟩⟩
  done := by
    intro X hP hw hK hc i pins s σ H E I hf st hg
    subst hP hw hK
    obtain ⟨f0, f1, f2, f3, f4, f5⟩ := hf it (by simp)
    have hi : x.cps.size ≤ i := hg
    have hn : x.cps[i]? = none := by simp [hi]
    cases b
    · exact wpAny_pyNext_wide_end (I.ok.hd hc) st hn fun h' eb => ⟨rfl, I.turned (t' := s.toks) (fun b o hb e => eb b o hb e) f0 f1 f3 f4 f5⟩
    · exact wpAny_pyNext_ascii_end (I.ok.hd hc) st hn fun h' eb => ⟨rfl, I.turned (t' := s.toks) (fun b o hb e => eb b o hb e) f0 f1 f3 f4 f5⟩
  self := fun _ _ _ _ _ st h => by
    cases b
    · exact wpAny_pyIter_striter_wide st h
    · exact wpAny_pyIter_striter_ascii st h
section
variable {X : Cx} {tg e : Expr} {te : TE}
def iStr (te : TE) : TI := fun σ H R => te σ H fun v H1 => ∃ x, v = .str x ∧ R (Its x) H1
theorem pi_str (he : PE X e te) : PI X tg e (iStr te) := by
  intro pins s σ H R I h
  refine thn (he pins s σ H _ I h) fun v s1 ⟨y, H1, I1, r1, q1⟩ => ?_
  obtain ⟨x, rfl, q⟩ := q1
  obtain ⟨t, rfl⟩ := r1
  have f : ∀ {b : Addr}, b ∈ [s1.heap.objs.size] → FpOk X pins H1 b := fun {b} hb => by
    obtain rfl : b = s1.heap.objs.size := by simpa using hb
    exact I1.fpOk (Nat.le_refl _) (I1.hok.fresh (Nat.le_refl _))
  cases ha : x.cps.all (· < 128)
  · exact wpAny_pyIter_wide ha ⟨_, [_], _, _, H1, rfl, I1.kept (t' := s1.toks) fun b o e => Heap.get?_push_of_some _ e, turn_str false x t _, ⟨_, Heap.get?_push_size _ rfl, rfl, rfl⟩, fun b hb => f hb, q⟩
  · exact wpAny_pyIter_ascii ha ⟨_, [_], _, _, H1, rfl, I1.kept (t' := s1.toks) fun b o e => Heap.get?_push_of_some _ e, turn_str true x t _, ⟨_, Heap.get?_push_size _ rfl, rfl, rfl⟩, fun b hb => f hb, q⟩
end
section
variable {l : Addr} {g : TG} {tt : TT} {te : TE} {σ0 : St} {H : Hp} {Q : Hp → Prop}
theorem c_str {x : Str} (Pv : Nat → List V → St → Hp → Prop) (h0 : Pv 0 [] σ0 H)
    (hs : ∀ i c ys σ H, x.cps[i]? = some c → Pv i ys σ H → g (.str ⟨#[c]⟩) σ H fun σ2 H2 => tt σ2 H2 fun b H3 =>
      if b = true then te σ2 H3 fun y H4 => H4 l = some (.lst ys) ∧ ys.length < sizeLine ∧ Pv (i + 1) (ys ++ [y]) σ2 (upd H4 l (.lst (ys ++ [y]))) else Pv (i + 1) ys σ2 H3)
    (hd : ∀ ys σ H, Pv x.cps.size ys σ H → Q H) : cLoop (Its x) l g tt te σ0 H Q := by
  refine ⟨fun i m ys σ H => m = x.cps.size - i ∧ i ≤ x.cps.size ∧ Pv i ys σ H, ⟨x.cps.size, by simp, Nat.zero_le _, h0⟩, ?_⟩
  rintro i m ys σ H ⟨rfl, hi, p⟩
  by_cases hlt : i < x.cps.size
  · refine .inr ⟨hlt, Pv (i + 1), fun zs σ' H' z => ⟨x.cps.size - (i + 1), by omega, rfl, hlt, z⟩, fun v H' y => ?_⟩
    obtain ⟨e, c, hcx, ev⟩ := y
    subst e ev
    exact hs i c ys σ _ hcx p
  · obtain rfl : i = x.cps.size := by omega
    exact .inl ⟨Nat.le_refl _, hd ys σ H p⟩
end
theorem for_str {x : Str} {g : TG} {tb : TS} {D : Ends} {σ : St} {H : Hp} (Pv : Nat → St → Hp → Prop) (h0 : Pv 0 σ H)
    (hs : ∀ i c σ H, x.cps[i]? = some c → Pv i σ H → g (.str ⟨#[c]⟩) σ H fun σ2 H2 => tb { D with nx := Pv (i + 1), ct := Pv (i + 1), bk := D.nx } σ2 H2) (hd : ∀ σ H, Pv x.cps.size σ H → D.nx σ H) :
    ∃ W : Nat → Nat → St → Hp → Prop, (∃ m, W 0 m σ H) ∧ ∀ i m σ H, W i m σ H →
      ((Its x).stop i H ∧ D.nx σ H) ∨ ((Its x).go i H ∧ ∃ N : St → Hp → Prop, (∀ σ' H', N σ' H' → ∃ m', m' < m ∧ W (i + 1) m' σ' H') ∧ ∀ v H', (Its x).yld i H v H' → g v σ H' fun σ2 H2 => tb { D with nx := N, ct := N, bk := D.nx } σ2 H2) := by
  refine ⟨fun i m σ H => m = x.cps.size - i ∧ i ≤ x.cps.size ∧ Pv i σ H, ⟨x.cps.size, by simp, Nat.zero_le _, h0⟩, ?_⟩
  rintro i m σ H ⟨rfl, hi, p⟩
  by_cases hlt : i < x.cps.size
  · refine .inr ⟨hlt, Pv (i + 1), fun σ' H' z => ⟨x.cps.size - (i + 1), by omega, rfl, hlt, z⟩, fun v H' y => ?_⟩
    obtain ⟨e, c, hcx, ev⟩ := y
    subst e ev
    exact hs i c σ _ hcx p
  · obtain rfl : i = x.cps.size := by omega
    exact .inl ⟨Nat.le_refl _, hd σ H p⟩
theorem strs_of {zs : List Str} : ∀ {us : List Value}, Vals (zs.map V.str) us → StrsAre us zs := by
  induction zs with
  | nil => intro us h; cases h; exact .nil
  | cons z r ih =>
    intro us h
    rw [List.map_cons] at h
    cases h with
    | cons r1 r2 =>
      obtain ⟨t, rfl⟩ := r1
      exact .cons _ _ (ih r2)
theorem vals_strs : ∀ l : List (Str × Tok), Vals ((l.map (·.1)).map V.str) (strValues l)
  | [] => .nil
  | (_, t) :: r => .cons ⟨t, rfl⟩ (vals_strs r)
section
variable {X : Cx} {o e : Expr} {es : List Expr} {to : TE} {t : TA} {name : Str} {apos cpos : Pos} {id : String} {r : V → List V → Hp → VK → Prop}
def tSM (r : V → List V → Hp → VK → Prop) (to : TE) (t : TA) : TE := fun σ H Q => to σ H fun x H1 => ∃ z, x = .str z ∧ t σ H1 fun xs H2 => r x xs H2 Q
theorem pe_sm (slot : Slot "str" name id) (hty : typeOf (.builtin id) = pure (.type "method_descriptor")) (hm : MtM X id r) (ho : PE X o to) (ha : PA X (e :: es) t)
    (hbase : attributeBase o name X.env (eval o X.env) = eval o X.env := by rfl)
    (hfew : ((backTo cpos (starEach (e :: es) X.env)).all (fun x => !x.1) && (backToKw cpos (keywordEach [] X.env)).all (fun x => x.1.isSome)
      && decide ((e :: es).length + ([] : List Keyword).length + (if ([] : List Keyword).isEmpty then 0 else 1) < 30)) = true := by rfl)
    (hline : (apos.endLine == cpos.line) = true := by rfl) (hs : starEach (e :: es) X.env = (false, eval e X.env) :: starEach es X.env := by rfl) (hplain : (backTo cpos (starEach es X.env)).any (·.1) = false := by rfl) :
    PE X (.Call (.Attribute o name apos) (e :: es) [] cpos) (tSM r to t) := by
  intro pins s σ H Q I h
  refine wpAny_Call_method_late hbase hfew hline rfl (thn (ho pins s σ H _ I h) fun v s1 ⟨x, H1, I1, r1, z, ez, q1⟩ => ?_)
  subst ez
  obtain ⟨h1, h2⟩ := tyV_is (T := "str") I1 r1 rfl
  refine ⟨"str", id, PySem.F.plainAttrs_str, slot, hty, h1, h2, ?_⟩
  have hA := ha cpos pins s1 σ H1 _ I1 q1
  rw [hs] at hA ⊢
  refine Calls.callWith_builtin (by show (false || (backTo cpos (starEach es X.env)).any (·.1)) = false; rw [hplain] <;> rfl) (Calls.evalArgs_plain ?_)
  exact thn hA fun us s2 ⟨vs, H2, I2, r2, q2⟩ => hm pins s2 σ H2 _ vs v us Q I2 r1 r2 q2
def rJoin : V → List V → Hp → VK → Prop := fun x vs H Q => ∃ (y : Str) (l : Addr) (zs : List Str), x = .str y ∧ vs = [.ref l] ∧ H l = some (.lst (zs.map V.str)) ∧ y.length ≤ 16 ∧ (zs.map (·.length)).sum + zs.length ≤ 1048576 ∧ Q (.str (Str.join y zs)) H
theorem mt_join : MtM X "str.join" rJoin := by
  intro pins s σ H x vs v us Q I rx rv h
  obtain ⟨y, l, zs, rfl, rfl, hH, hy, hw, q⟩ := h
  obtain ⟨t, rfl⟩ := rx
  obtain ⟨u, rfl, ru⟩ := rv.one
  cases ru
  obtain ⟨zz, its, n, rr, hl, e⟩ := I.lstM hH
  refine join_listW (items := its.toArray) ⟨_, e, rfl, _, rfl⟩ (strs_of rr) hy hw fun t' k => ⟨.str (Str.join y zs), H, I.tok _, ⟨t', ?_⟩, q⟩
  show Value.str (PySem.Txt.join y zs) t' = _
  unfold PySem.Txt.join
  rw [StrLaws.glued_eq_join]
def rSplit : V → List V → Hp → VK → Prop := fun x vs H Q => ∃ z y : Str, x = .str z ∧ vs = [.str y] ∧ (y.length == 0) = false ∧ z.length + 2 ≤ sizeLine ∧ ∀ p, H p = none → Q (.ref p) (upd H p (.lst ((PySem.Txt.split z y).map V.str)))
theorem mt_split : MtM X "str.split" rSplit := by
  intro pins s σ H x vs v us Q I rx rv h
  obtain ⟨z, y, rfl, rfl, hy, hz, q⟩ := h
  obtain ⟨t, rfl⟩ := rx
  obtain ⟨u, rfl, ru⟩ := rv.one
  obtain ⟨u', rfl⟩ := ru
  have hy1 : 1 ≤ y.length := by
    have : y.length ≠ 0 := fun c => by rw [c] at hy; cases hy
    omega
  have hw := split_weight z y hy1
  have goal : ∀ (l : List (Str × Tok)) (k : Nat), l.map (·.1) = PySem.Txt.split z y → EP X pins σ Q (.ref s.heap.objs.size) { s with heap := s.heap.push { cls := .type "list", data := .seq (strValues l).toArray }, toks := k } := fun l k e =>
    ⟨.ref _, _, I.lnew (t' := k) (vals_strs l) (by rw [List.length_map, e]; omega), rfl, by rw [e]; exact q _ I.fresh⟩
  cases c1 : (decide (z.length < y.length) || decide (Builtin.Str.strKind z < Builtin.Str.strKind y)) with
  | true =>
    refine call_meets F.slot_str_split (typeIs_str _ _ _) F.entry_str_split (F.args_str_split_2 _ _) (meets_str_split_cannot_occur z y t u' c1) (goal [(z, t)] s.toks ?_)
    unfold PySem.Txt.split
    rw [if_pos c1]
    rfl
  | false =>
    cases c2 : (Builtin.Str.occurrences z y 0 z.length (z.length + 1)).isEmpty with
    | true =>
      refine call_meets F.slot_str_split (typeIs_str _ _ _) F.entry_str_split (F.args_str_split_2 _ _) (meets_str_split_not_found z y t u' c1 hy c2) (goal [(z, t)] s.toks ?_)
      unfold PySem.Txt.split
      rw [if_neg (by rw [c1]; decide), if_pos c2]
      rfl
    | false =>
      have es : PySem.Txt.split z y = Builtin.Str.partsBetween z (Builtin.Str.occurrences z y 0 z.length (z.length + 1)) y.length := by
        unfold PySem.Txt.split
        rw [if_neg (by rw [c1]; decide), if_neg (by rw [c2]; decide)]
      have hl : (Builtin.Str.partsBetween z (Builtin.Str.occurrences z y 0 z.length (z.length + 1)) y.length).length ≤ sizeLine := by rw [← es]; omega
      refine call_meets F.slot_str_split (typeIs_str _ _ _) F.entry_str_split (F.args_str_split_2 _ _) (meets_str_split_sep z y t u' c1 hy c2 (by omega) hl) ?_
      have g := goal (numbered s.toks (Builtin.Str.partsBetween z (Builtin.Str.occurrences z y 0 z.length (z.length + 1)) y.length))
      rw [← strsFrom_eq] at g
      exact g _ ((numbered_texts _ _).trans es.symm)
def rSIndex : V → List V → Hp → VK → Prop := fun x vs H Q => ∃ (z y : Str) (i : Nat) (rest : List Nat), x = .str z ∧ vs = [.str y] ∧ Builtin.Str.occurrences z y 0 z.length 1 = i :: rest ∧ Q (.int i) H
theorem mt_sindex : MtM X "str.index" rSIndex := by
  intro pins s σ H x vs v us Q I rx rv h
  obtain ⟨z, y, i, rest, rfl, rfl, ho, q⟩ := h
  obtain ⟨t, rfl⟩ := rx
  obtain ⟨u, rfl, ru⟩ := rv.one
  obtain ⟨u', rfl⟩ := ru
  exact SC.index ho ⟨.int i, H, I.tok _, ⟨_, rfl⟩, q⟩
def rFind : V → List V → Hp → VK → Prop := fun x vs H Q => ∃ z y : Str, x = .str z ∧ vs = [.str y] ∧ Q (.int (PySem.Txt.find z y)) H
theorem mt_find : MtM X "str.find" rFind := by
  intro pins s σ H x vs v us Q I rx rv h
  obtain ⟨z, y, rfl, rfl, q⟩ := h
  obtain ⟨t, rfl⟩ := rx
  obtain ⟨u, rfl, ru⟩ := rv.one
  obtain ⟨u', rfl⟩ := ru
  exact SC.find ⟨.int _, H, I.tok _, ⟨_, rfl⟩, q⟩
end
section
variable {X : Cx}
def rSlS : V → Option Int → Option Int → Hp → VK → Prop := fun x lo hi H Q => ∃ z, x = .str z ∧ z.length ≤ sizeLine ∧ Q (.str (PySem.Txt.slice z lo hi)) H
theorem sl_str : SlR X rSlS := by
  intro pins s σ H x v vl vu lo hi sl Q I rx hs pl pu h
  obtain ⟨z, rfl, hz, q⟩ := h
  obtain ⟨t, rfl⟩ := rx
  refine ⟨"str", _, F.slot_str_getitem.lookup, typeIs_str _ _ _, ?_⟩
  have fin : ∀ (t' : Tok) (k : Nat), EP X pins σ Q (.str (PySem.Txt.slice z lo hi) t') { s with toks := k } := fun t' k => ⟨.str _, H, I.tok _, ⟨t', rfl⟩, q⟩
  have len := Nat.le_trans (PySem.Txt.slice_le z lo hi) hz
  cases pl with
  | none => cases pu with
    | none => exact wpAny_getItem_str_slice (l := none) (u := none) (st := none) hs rfl (post_val_or_str ⟨len, fin⟩)
    | int j uj => exact wpAny_getItem_str_slice (l := none) (u := some (j, uj)) (st := none) hs rfl (post_val_or_str ⟨len, fin⟩)
  | int i ui => cases pu with
    | none => exact wpAny_getItem_str_slice (l := some (i, ui)) (u := none) (st := none) hs rfl (post_val_or_str ⟨len, fin⟩)
    | int j uj => exact wpAny_getItem_str_slice (l := some (i, ui)) (u := some (j, uj)) (st := none) hs rfl (post_val_or_str ⟨len, fin⟩)
end
section
variable {X : Cx} {c a b : Expr} {tt : TT} {ta tb : TE} {pos : Pos}
def tIfE (tt : TT) (ta tb : TE) : TE := fun σ H Q => tt σ H fun k H1 => if k = true then ta σ H1 Q else tb σ H1 Q
theorem pe_ife (hc : PT X c tt) (ha : PE X a ta) (hb : PE X b tb) : PE X (.IfExp c a b pos) (tIfE tt ta tb) := by
  intro pins s σ H Q I h
  refine wpAny_IfExp (thn (hc pins s σ H _ I h) fun k s1 ⟨H1, I1, q⟩ => ?_)
  cases k with
  | true => rw [if_pos rfl] at q ⊢; exact ha pins s1 σ H1 Q I1 q
  | false => rw [if_neg Bool.false_ne_true] at q ⊢; exact hb pins s1 σ H1 Q I1 q
end
section
variable {X : Cx} {e : Expr} {te : TE}
theorem pb_repr {p : Pos} (he : PE X e te) : PB X (.FormattedValue e 114 none p) (fun σ H Q => te σ H fun v H1 => ∃ z, v = .str z ∧ (reprText z).length ≤ 3000 ∧ Q H1) := by
  intro pins s σ H Q I h
  refine wpAny_FormattedValue_repr (thn (he pins s σ H _ I h) fun u s1 ⟨v, H1, I1, r, z, ev, ln, q⟩ => ?_)
  subst ev
  obtain ⟨t, rfl⟩ := r
  have sz : (reprText z).length ≤ sizeLine := Nat.le_trans ln (by rw [sizeLine_eq]; decide)
  exact pyReprObj_str (wpAny_formatField_str ⟨_, _, H1, rfl, ln, I1.tok _, q⟩ ⟨_, _, H1, rfl, ln, I1.tok _, q⟩ sz) sz
end
def isLits : List Expr → Bool
  | [] => true
  | .Constant (.str _) _ _ :: r => isLits r
  | _ => false
def litsOf : List Expr → List Str
  | .Constant (.str x) _ _ :: r => x :: litsOf r
  | _ => []
def tLits (xs : List Str) : TA := fun _ H Q => Q (xs.map V.str) H
theorem pa_lits {X : Cx} : ∀ {es : List Expr}, isLits es = true → PA X es (tLits (litsOf es)) := by
  intro es
  induction es with
  | nil => exact fun _ _ _ _ _ H Q I h => Calls.spliced_nil ⟨[], H, I, .nil, h⟩
  | cons e r ih =>
    intro h
    cases e with
    | Constant c j p =>
      cases c with
      | str x =>
        intro pos pins s σ H Q I q
        exact pa_cons pe_str (ih h) rfl pos pins s σ H Q I q
      | _ => cases h
    | _ => cases h
theorem sw_list {es : List Expr} {p : Pos} {x : Expr} {l : Nat} {env : Env} : swapsWith (.List es p) (some x) l env = pure false := rfl
theorem sw_bin {a b : Expr} {op : Operator} {p : Pos} {x : Expr} {l : Nat} {env : Env} : swapsWith (.BinOp a op b p) (some x) l env = pure false := rfl
end L2
namespace L2
open PySem PySem.Spec PyProof.Rows
structure Own (H0 H : Hp) (lw : Addr) (as : List Addr) (ws : List (List Int)) : Prop where
  at_ : H lw = some (.lst (as.map V.ref))
  nw : H0 lw = none
  nd : as.Nodup
  pr : Paired (fun b w => (b ≠ lw ∧ H0 b = none) ∧ H b = some (.lst (w.map V.int))) as ws
theorem Own.wl {H0 H : Hp} {lw : Addr} {as : List Addr} {ws : List (List Int)} (o : Own H0 H lw as ws) : WL H lw ws := ⟨as, o.at_, Paired.mapP o.pr fun _ _ e => e.2⟩
theorem Own.len {H0 H : Hp} {lw : Addr} {as : List Addr} {ws : List (List Int)} (o : Own H0 H lw as ws) : as.length = ws.length := Paired.length o.pr
theorem Own.same {H0 H H' : Hp} {lw : Addr} {as : List Addr} {ws : List (List Int)} (o : Own H0 H lw as ws) (s : Same H H') : Own H0 H' lw as ws := ⟨s _ _ o.at_, o.nw, o.nd, Paired.mapP o.pr fun _ _ e => ⟨e.1, s _ _ e.2⟩⟩
theorem Own.snoc {H0 H : Hp} {lw : Addr} {as : List Addr} {ws : List (List Int)} {H' : Hp} {c : Addr} {w : List Int} (o : Own H0 H lw as ws) (s : Same H H') (fc : H c = none) (hc : H' c = some (.lst (w.map V.int))) (f0 : H0 c = none) :
    Own H0 (upd H' lw (.lst (as.map V.ref ++ [V.ref c]))) lw (as ++ [c]) (ws ++ [w]) := by
  have ncl : c ≠ lw := fun z => by rw [z, o.at_] at fc; cases fc
  refine ⟨by rw [upd_same, List.map_append]; rfl, o.nw, ?_, Paired.snoc (Paired.mapP o.pr fun b w e => ⟨e.1, ?_⟩) ⟨⟨ncl, f0⟩, ?_⟩⟩
  · refine List.nodup_append.mpr ⟨o.nd, by simp, fun a ha b hb => ?_⟩
    obtain rfl : b = c := by simpa using hb
    rintro rfl
    obtain ⟨i, hi⟩ := List.getElem?_of_mem ha
    obtain ⟨w', _, e⟩ := paired_get1 o.pr hi
    rw [fc] at e
    cases e.2
  · rw [upd_ne e.1.1]
    exact s _ _ e.2
  · rw [upd_ne ncl]
    exact hc
end L2
namespace Sh
open PySem
structure Ris (m : Nat) (w : List Int) : Prop where
  lt : ∀ b ∈ w, 0 ≤ b ∧ b < (m : Int)
  up : w.Pairwise (· < ·)
theorem Ris.nil (m : Nat) : Ris m [] := ⟨fun _ h => absurd h (by simp), .nil⟩
theorem Ris.snoc {m : Nat} {w : List Int} {b : Int} (h : Ris m w) (h0 : 0 ≤ b) (h1 : b < m) (hl : ∀ x ∈ w, x < b) : Ris m (w ++ [b]) :=
  ⟨fun x hx => by
    rcases List.mem_append.mp hx with z | z
    · exact h.lt x z
    · rw [List.mem_singleton.mp z]; exact ⟨h0, h1⟩, List.pairwise_append.mpr ⟨h.up, by simp, fun x hx y hy => by rw [List.mem_singleton.mp hy]; exact hl x hx⟩⟩
theorem rangeI_ris (m : Nat) : (rangeI m).Pairwise (· < ·) := by
  induction m with
  | zero => exact .nil
  | succ n ih =>
    rw [rangeI_succ]
    refine List.pairwise_append.mpr ⟨ih, by simp, fun x hx y hy => ?_⟩
    rw [List.mem_singleton.mp hy]
    exact (mem_rangeI.mp hx).2
theorem filter_ris (m : Nat) (p : Int → Bool) : Ris m ((rangeI m).filter p) := ⟨fun b hb => mem_rangeI.mp (List.mem_filter.mp hb).1, (rangeI_ris m).sublist List.filter_sublist⟩
theorem ris_ext : ∀ {v w : List Int}, v.Pairwise (· < ·) → w.Pairwise (· < ·) → (∀ x, x ∈ v ↔ x ∈ w) → v = w
  | [], [], _, _, _ => rfl
  | [], b :: _, _, _, h => absurd ((h b).mpr (by simp)) (by simp)
  | a :: _, [], _, _, h => absurd ((h a).mp (by simp)) (by simp)
  | a :: v, b :: w, hv, hw, h => by
    have v1 := List.pairwise_cons.mp hv
    have w1 := List.pairwise_cons.mp hw
    have e : a = b := by
      rcases List.mem_cons.mp ((h a).mp (by simp)) with z | z
      · exact z
      · rcases List.mem_cons.mp ((h b).mpr (by simp)) with y | y
        · exact y.symm
        · have := w1.1 a z
          have := v1.1 b y
          omega
    subst e
    rw [ris_ext v1.2 w1.2 fun x => ⟨fun z => ?_, fun z => ?_⟩]
    · rcases List.mem_cons.mp ((h x).mp (List.mem_cons_of_mem _ z)) with y | y
      · have := v1.1 x z
        omega
      · exact y
    · rcases List.mem_cons.mp ((h x).mpr (List.mem_cons_of_mem _ z)) with y | y
      · have := w1.1 x z
        omega
      · exact y
theorem ris_back {m : Nat} {w : List Int} (h : Ris m w) : (rangeI m).filter (fun b => decide (b ∈ w)) = w := by
  refine ris_ext (filter_ris m _).up h.up fun x => ?_
  rw [List.mem_filter, decide_eq_true_iff]
  exact ⟨fun z => z.2, fun z => ⟨mem_rangeI.mpr (h.lt x z), z⟩⟩
theorem Ris.len {m : Nat} {w : List Int} (h : Ris m w) : w.length ≤ m := by
  have := List.length_filter_le (fun b => decide (b ∈ w)) (rangeI m)
  rw [ris_back h, rangeI_len] at this
  exact this
theorem figs_inj : ∀ {v w : List Int}, (∀ b ∈ v, 0 ≤ b) → (∀ b ∈ w, 0 ≤ b) → figs v = figs w → v = w := by
  intro v w hv hw e
  have e1 := congrArg (fun z : Str => z.cps.toList) e
  simp only [figs_list] at e1
  induction v generalizing w with
  | nil =>
    cases w with
    | nil => rfl
    | cons b w => cases e1
  | cons a v ih =>
    cases w with
    | nil => cases e1
    | cons b w =>
      rw [List.map_cons, List.map_cons] at e1
      have e2 := List.cons.inj e1
      have h1 := hv a (by simp)
      have h2 := hw b (by simp)
      have e3 : a = b := by have := e2.1; omega
      have e4 := ih (w := w) (fun x hx => hv x (List.mem_cons_of_mem _ hx)) (fun x hx => hw x (List.mem_cons_of_mem _ hx)) (str_ext (by rw [figs_list, figs_list]; exact e2.2)) e2.2
      rw [e3, e4]
theorem word_pos (w : List Int) : 1 ≤ (word w).length := by
  unfold word
  split
  · exact Nat.le_refl 1
  · rename_i h
    rw [figs_len]
    cases w with
    | nil => exact absurd rfl h
    | cons a r => simp
theorem dash_ne {w : List Int} (h : word w ≠ ⟨#[45]⟩) : w ≠ [] ∧ word w = figs w := by
  unfold word at h ⊢
  by_cases e : w = []
  · rw [if_pos e] at h
    exact absurd rfl h
  · rw [if_neg e]
    exact ⟨e, rfl⟩
theorem word_dash {w : List Int} (h : word w = ⟨#[45]⟩) : w = [] := by
  unfold word at h
  split at h
  · assumption
  · cases w with
    | nil => rfl
    | cons a r =>
      have := congrArg (fun z : Str => z.cps.toList) h
      rw [figs_list] at this
      have h2 : 49 + a.toNat = 45 := (List.cons.inj this).1
      omega
theorem word_inj {m n : Nat} {v w : List Int} (hv : Ris m v) (hw : Ris n w) (e : word v = word w) : v = w := by
  by_cases h : word v = ⟨#[45]⟩
  · rw [word_dash h, word_dash (e.symm.trans h)]
  · have h1 := dash_ne h
    have h2 := dash_ne (fun z => h (e.trans z))
    exact figs_inj (fun b hb => (hv.lt b hb).1) (fun b hb => (hw.lt b hb).1) (h1.2.symm.trans (e.trans h2.2))
theorem hd_inj {m n : Nat} (e : hd m = hd n) : m = n := by
  have := congrArg (fun z : Str => z.cps.toList) e
  unfold hd at this
  have := (List.cons.inj this).1
  omega
structure OkT (z : Str) (m : Nat) (ws : List (List Int)) : Prop where
  sp : Txt.split z ⟨#[32]⟩ = hd m :: ws.map word
  m1 : 1 ≤ m
  m8 : m ≤ 8
  few : ws.length ≤ 12
  ris : ∀ w ∈ ws, Ris m w
structure Pl (n : Nat) (z : Str) : Prop where
  len : z.length ≤ n
  low : ∀ c ∈ z.cps.toList, c < 128
theorem Pl.app {n k : Nat} {a b : Str} (ha : Pl n a) (hb : Pl k b) : Pl (n + k) (a ++ b) := ⟨by rw [Str.length_append]; have := ha.len; have := hb.len; omega, fun c hc => by
  rw [str_app] at hc
  exact (List.mem_append.mp hc).elim (ha.low c) (hb.low c)⟩
theorem Pl.mono {n k : Nat} {a : Str} (ha : Pl n a) (h : n ≤ k) : Pl k a := ⟨Nat.le_trans ha.len h, ha.low⟩
theorem mem_slice {z : Str} {lo hi : Option Int} {c : Nat} (h : c ∈ (Txt.slice z lo hi).cps.toList) : c ∈ z.cps.toList := by
  unfold Txt.slice at h
  split at h
  · exact h
  · simp only [List.mem_filterMap] at h
    obtain ⟨i, _, e⟩ := h
    have := Array.mem_of_getElem? e
    exact Array.mem_toList_iff.mpr this
theorem Pl.cut {n : Nat} {a : Str} (ha : Pl n a) (lo hi : Option Int) : Pl n (Txt.slice a lo hi) := ⟨Nat.le_trans (Txt.slice_le a lo hi) ha.len, fun c hc => ha.low c (mem_slice hc)⟩
theorem Pl.part {n : Nat} {a x : Str} (ha : Pl n a) (h : x ∈ Txt.split a ⟨#[32]⟩) : Pl n x := by
  refine ⟨Nat.le_trans (PyProof.Rows.part_short h) ha.len, fun c hc => ha.low c ?_⟩
  have e := StrLaws.join_split a ⟨#[32]⟩
  have : ∀ l : List Str, x ∈ l → c ∈ (Str.join ⟨#[32]⟩ l).cps.toList := fun l => by
    induction l with
    | nil => intro h; cases h
    | cons b r ih =>
      intro h
      cases r with
      | nil => rw [List.mem_singleton.mp h] at hc; exact hc
      | cons d r =>
        rw [join_two]
        rcases List.mem_cons.mp h with rfl | z
        · exact List.mem_append_left _ hc
        · exact List.mem_append_right _ (List.mem_cons_of_mem _ (ih z))
  rw [← e]
  exact this _ h
theorem Pl.repr {n : Nat} {a : Str} (ha : Pl n a) (h : n ≤ 299) : (reprText a).length ≤ 3000 := by
  have := StrLaws.reprText_len a fun c hc => by have := ha.low c hc; omega
  have := ha.len
  omega
theorem Pl.figs {w : List Int} (h : ∀ b ∈ w, b < 79) : Pl w.length (figs w) := ⟨by rw [figs_len]; exact Nat.le_refl _, fun c hc => by
  rw [figs_list] at hc
  obtain ⟨b, hb, rfl⟩ := List.mem_map.mp hc
  have := h b hb
  omega⟩
theorem pl_one {c : Nat} (h : c < 128) : Pl 1 ⟨#[c]⟩ := ⟨Nat.le_refl 1, fun d hd => by
  simp at hd
  omega⟩
def figAt (c : Nat) : Int := if 49 ≤ c ∧ c ≤ 56 then (c : Int) - 49 else -1
theorem find_fig {c : Nat} (h : c < 128) : Txt.find (Str.ofString "12345678") ⟨#[c]⟩ = figAt c := by
  have key : ∀ c : Fin 128, Txt.find (Str.ofString "12345678") ⟨#[c.1]⟩ = figAt c.1 := by decide +kernel
  exact key ⟨c, h⟩
theorem occ_fig {c : Nat} (h : c < 128) : (!(Builtin.Str.occurrences (Str.ofString "12345678") ⟨#[c]⟩ 0 (Str.ofString "12345678").length 1).isEmpty) = decide (49 ≤ c ∧ c ≤ 56) := by
  have key : ∀ c : Fin 128, (!(Builtin.Str.occurrences (Str.ofString "12345678") ⟨#[c.1]⟩ 0 (Str.ofString "12345678").length 1).isEmpty) = decide (49 ≤ c.1 ∧ c.1 ≤ 56) := by decide +kernel
  exact key ⟨c, h⟩
theorem slice_first (c d : Nat) : Txt.slice ⟨#[c, d]⟩ none (some 1) = ⟨#[c]⟩ := rfl
theorem slice_rest (c d : Nat) : Txt.slice ⟨#[c, d]⟩ (some 1) none = ⟨#[d]⟩ := by
  have e : Builtin.Str.strSliceIndices (some 1) none 1 2 = [1] := by decide +kernel
  unfold Txt.slice
  rw [show (⟨#[c, d]⟩ : Str).length = 2 from rfl, e]
  rfl
theorem two_signs {x : Str} (h : x.length = 2) : ∃ c d, x = ⟨#[c, d]⟩ := by
  obtain ⟨⟨l⟩⟩ := x
  have h : l.length = 2 := h
  match l, h with
  | [c, d], _ => exact ⟨c, d, rfl⟩
end Sh
namespace L2
open PySem PySem.Spec PyProof.Rows
section
variable {M : Model} {A : Around} {EE : Value → Shared → Prop} {s : Shared}
theorem leaving_any {base : Heap} {env : Env} {outer : List Env} {L e : Addr} {cls a0 fl : Value} {Q : Unit → Shared → Prop} (hfr : A.frames = some (env :: outer)) (hl : s.heap.FunFrames base (env :: outer)) (hf : env.frame = some L)
    (ht : s.heap.TracedAtW base e cls a0 fl) (hkb : base.StaysIn s.heap) (hen : base.get? e = none) (h : ∀ h', Heap.LeftW base (env :: outer) e cls a0 s.heap h' → Q () { s with heap := h' }) : wpAny M A (leaving env (.ref e)) Q EE s := by
  by_cases hq : fl = rawInt L
  · subst hq
    unfold leaving
    refine wpAny_bind (wpAny_noteFrame_againW hf ht ?_)
    exact wpAny_setFlight_noneW hkb hl ht fun h' k1 k2 k3 k4 => h h' ⟨k1, k2, k3, fun b o hb hn => ⟨o.slots, k4 b o hb hn⟩⟩
  · obtain ⟨oe, vs, T, oT, ts, he, ⟨hcls, h0⟩, hd, h1, hnT, hTe, hT, hdT, h3⟩ := ht
    subst hcls
    have nq : (fl == rawInt L) = false := by
      cases c : fl == rawInt L with
      | false => rfl
      | true => exact absurd (eq_of_beq c) hq
    unfold leaving noteFrame
    simp only [hf]
    refine wpAny_bind (wpAny_bind (wpAny_field he hd h1 ?_))
    rw [if_pos (by simp)]
    refine wpAny_bind (wpAny_field hT hdT h3 ?_)
    rw [nq, if_neg Bool.false_ne_true]
    refine wpAny_bind (wpAny_setField hT hdT (Array.getElem?_eq_some_iff.mp h3).1 ?_)
    have oth : ∀ b, b ≠ T → (s.heap.update T (Obj.mapFields (·.setIfInBounds 3 Value.none))).get? b = s.heap.get? b := fun b hb => Heap.get?_update_other _ _ (Ne.symm hb)
    have nrec : ∀ b o, s.heap.get? b = some o → (∀ vs, o.data ≠ .fields vs) → b ≠ T := fun b o hb hnf z => by
      rw [z, hT] at hb
      cases hb
      exact hnf ts hdT
    refine wpAny_newEntryW hfr (hl.of_keeps fun b o hb hnf => ⟨o, by rw [oth b (nrec b o hb hnf)]; exact hb, rfl⟩) hf (by rw [oth e (Ne.symm hTe)]; exact he) (fun b o hbo => ?_) hen hd (Array.getElem?_eq_some_iff.mp h1).1 h0 fun h' k => ?_
    · rw [oth b fun z => by rw [z, hnT] at hbo; cases hbo]
      exact hkb b o hbo
    · exact h h' ⟨k.1, k.2.1, k.2.2.1, fun b o hb hnf => k.2.2.2 b o (by rw [oth b (nrec b o hb hnf)]; exact hb) hnf⟩
end
def Lies (h : Heap) (a C T : Addr) (fl : Value) : Prop :=
  ∃ oe vs oT ts a0, h.get? a = some oe ∧ (oe.cls = .ref C ∧ vs[0]? = some a0) ∧ oe.data = .fields vs ∧ vs[1]? = some (.ref T) ∧ T ≠ a ∧ h.get? T = some oT ∧ oT.data = .fields ts ∧ ts[3]? = some fl
def Bears (X : Cx) (E : XK) : Prop := ∀ (pins : List (Addr × Obj)) (σ : St) (H : Hp) (s : Shared) (a C T : Addr) (fl : Value), Inv X pins σ H s → Lies s.heap a C T fl → H a = none → H T = none → X.s₀.heap.get? a = none → X.s₀.heap.get? T = none → E (.ref C) none H → X.xe (.ref a) s
section
variable {X : Cx} {pins : List (Addr × Obj)} {σ : St} {H : Hp} {s : Shared}
theorem lies_next {M : Model} {E : XK} {EE : Value → Shared → Prop} {a C T : Addr} {fl : Value} (I : Inv X pins σ H s) (hst : X.stack = X.env :: X.outer) (hfr : X.env.frame = some X.env.locals) (hex : X.ex = []) (hL : Lies s.heap a C T fl) (na : H a = none) (nT : H T = none)
    (fa : X.s₀.heap.get? a = none) (fT : X.s₀.heap.get? T = none) (q : E (.ref C) none H) : wpAny M X.A (leaving X.env (.ref a)) (fun _ s'' => CX1 X.prog X.w X.outer X.H₀ X.s₀ E (.ref a) s'') EE s := by
  obtain ⟨oe, vs, oT, ts, a0, he, hcl, hd, h1, hTe, hT, hdT, h3⟩ := hL
  have hl := I.stack
  have nos : ∀ b ∈ [a, T], H b = none := fun b z => by
    rcases List.mem_cons.mp z with rfl | z
    · exact na
    · rw [List.mem_singleton.mp z]; exact nT
  have news : ∀ b ∈ [a, T], X.s₀.heap.get? b = none := fun b z => by
    rcases List.mem_cons.mp z with rfl | z
    · exact fa
    · rw [List.mem_singleton.mp z]; exact fT
  have hl' := funs_hid (ch := [a, T]) hl
  rw [hst] at hl'
  refine leaving_any (base := PySem.W.hideAll s.heap ([a, T] ++ frs (X.env :: X.outer))) (cls := .ref C) (a0 := a0) (by rw [I.ok.frames, hst]) hl' hfr ⟨oe, vs, T, oT, ts, he, hcl, hd, h1, PySem.W.hideAll_none _ (by simp), hTe, hT, hdT, h3⟩
    hid_stays (PySem.W.hideAll_none _ (by simp)) fun h' ⟨k1, k2, k3, k4⟩ => ?_
  rw [← hst] at k1 k3
  have mv : Mv [a, T] (frs X.stack) s.heap h' := mv_of_left k1 k4 hl rfl
  have b0 := I.base
  rw [hex] at b0
  have nch : ∀ {b o}, X.s₀.heap.get? b = some o → b ∉ [a, T] := fun e z => by rw [news _ z] at e; cases e
  have nL : ∀ b o, X.s₀.heap.get? b = some o → b ≠ X.env.locals := fun b o e => Nat.ne_of_lt (Nat.lt_of_lt_of_le (Heap.lt_size e) I.ok.above)
  have nst : ∀ b o, X.s₀.heap.get? b = some o → b ∉ frs X.outer → b ∉ frs X.stack := fun b o e hb z => (List.mem_cons.mp (I.stkSub b z)).elim (nL b o e) hb
  obtain ⟨oe', vs', T', oT', ts', p1, p2, p3, p4, p5, p6, p7, p8, p9, p10⟩ := fly_step (P := X.prog) (w := X.w) (h0 := X.s₀.heap) (ch := [a, T]) (by simp) hl I.stkFree news nos I.hok (fun b o e => b0.there b o e (fun z => nomatch z)) k1 k4 k3.at
  refine ⟨a, C, T', H, rfl, I.os, I.bare, ⟨fun b o e n hb hx => ?_, fun b o e n hb hx => ?_, b0.free, fun b o e hx => ?_, b0.tups, b0.frzs, b0.tbls⟩, I.hok.mv mv nos I.stkFree, ⟨oe', vs', oT', ts', a0, p1, p2, p3, p4, p5, p6, p7, p8⟩, na, p9, fa, p10, q⟩
  · exact mv.1 b o (nch e) (nst b o e hb) (b0.keep b o e n hb hx)
  · obtain ⟨_, e1⟩ := b0.slot b o e n hb hx
    obtain ⟨sl, e2⟩ := mv.any (nch e) e1
    exact ⟨sl, e2⟩
  · obtain ⟨_, e1⟩ := b0.there b o e hx
    obtain ⟨sl, e2⟩ := mv.any (nch e) e1
    exact ⟨_, e2⟩
end
section
variable {P : Program} {w : World} {K : PySem.W.Frag} {mg : Str → Option Value} {base : Heap} {N : List Str} {qual : Str} {scope : Scope} {f : Addr} {cd : Value} {A : Around} {outer : List Env} {s : Shared} {H : Hp} {E : XK}
theorem bears1 : Bears (cxOf (CX1 P w) P w K mg base N qual scope f cd A outer s H E) E := fun _ _ _ _ _ _ _ _ I hL na nT fa fT q => lies_next I rfl rfl rfl hL na nT fa fT q
end

section
variable {X : Cx} {pins : List (Addr × Obj)} {σ : St} {H : Hp} {s : Shared} {elt tg iter : Expr} {ifs : List Expr} {sc : Scope} {pos : Pos} {own : List Str} {cap : List (Str × Nat)} {wi : TI} {g : TG} {tt : TT} {te : TE}
abbrev blkX (X : Cx) (sc : Scope) (N' : List Str) (cl : List (Str × Addr)) (s : Shared) (H : Hp) (fp : List Addr) (xe : Value → Shared → Prop) : Cx := (blkCx X sc N' cl s H fp).re X.A X.calm [] xe
theorem blk_to {N' : List Str} {cl : List (Str × Addr)} {s0 : Shared} {H0 : Hp} {fp : List Addr} {xe : Value → Shared → Prop} {ps : List (Addr × Obj)} (I : Inv (blkCx X sc N' cl s0 H0 fp) ps σ H s) : Inv (blkX X sc N' cl s0 H0 fp xe) ps σ H s :=
  I.re rfl I.ok.hd fun p z => .inl z
theorem blk_of {N' : List Str} {cl : List (Str × Addr)} {s0 : Shared} {H0 : Hp} {fp : List Addr} {xe : Value → Shared → Prop} {ps : List (Addr × Obj)} (I : Inv (blkX X sc N' cl s0 H0 fp xe) ps σ H s) : Inv (blkCx X sc N' cl s0 H0 fp) ps σ H s :=
  Inv.unre (X := blkCx X sc N' cl s0 H0 fp) I rfl I.ok.hd fun p z => z
theorem blk_loop1 {N' : List Str} {cl : List (Str × Addr)} {s0 : Shared} {H0 : Hp} {fp : List Addr} {it l : Addr} {tn : Nat → Heap → Prop} {J : It} {R : Result → Shared → Prop} {Q : Hp → Prop} {σ0 : St} {xe : Value → Shared → Prop}
    (hc : X.calm = true) (T : Turn X.prog X.w X.K tg J fp it tn) (hfp : ∀ {H' : Hp}, (∀ b ∈ fp, H' b = none) → ∀ b ∈ fp, FpOk (blkX X sc N' cl s0 H0 fp xe) [] H' b)
    (hg : PG (blkX X sc N' cl s0 H0 fp xe) tg g) (ht : PTs (blkX X sc N' cl s0 H0 fp xe) ifs tt) (he : PE (blkX X sc N' cl s0 H0 fp xe) elt te)
    (I : Inv (blkX X sc N' cl s0 H0 fp xe) [] σ0 H s) (st : tn 0 s.heap) (fr : ∀ b ∈ fp, H b = none) (h : cLoop J l g tt te σ0 H Q)
    (hxe : ∀ e s', xe e s' → notedBy (model X.prog X.w) X.A (blkX X sc N' cl s0 H0 fp xe).env (fun x s'' => R (.error x) s'') e s')
    (hR : ∀ σ' H' s', Inv (blkX X sc N' cl s0 H0 fp xe) [] σ' H' s' → Q H' → R (.ok .next) s') :
    codeAny (model X.prog X.w) X.A (.compLoop (.ListComp elt [⟨tg, iter, ifs, 0⟩] sc pos) 0 (.ref it) (.ref l) (blkX X sc N' cl s0 H0 fp xe).env) R s := by
  obtain ⟨W, ⟨m0, w0⟩, turn⟩ := h
  refine codeAny_loop rfl (fun n s' => ∃ i ys σ' H', Inv (blkX X sc N' cl s0 H0 fp xe) [] σ' H' s' ∧ tn i s'.heap ∧ (∀ b ∈ fp, H' b = none) ∧ W i n ys σ' H') (fun n s1 hI => ?_) m0 ⟨0, [], σ0, H, I, st, fr, w0⟩
  obtain ⟨i, ys, σ1, H1, I1, st1, fr1, w1⟩ := hI
  show wpAny _ X.A ((compTurn (.ListComp elt [⟨tg, iter, ifs, 0⟩] sc pos) 0 (.ref it) (.ref l) (blkX X sc N' cl s0 H0 fp xe).env).onRaise (fun x => do noteFrame x (blkX X sc N' cl s0 H0 fp xe).env; theTreesLotGoes x)) _ _ s1
  refine wpAny_noted (wpAny_mono (E := xe) ?_ (fun _ _ y => y) hxe)
  rw [compTurn_list]
  refine wpAny_bind (wpAny_standAt (wpAny_bind ?_))
  rcases turn i n ys σ1 H1 w1 with ⟨stop, q⟩ | ⟨go, N, hN, step⟩
  · refine thn (T.done (blkX X sc N' cl s0 H0 fp xe) rfl rfl rfl hc i [] s1 σ1 H1 _ I1 (hfp fr1) st1 stop) fun r s2 ⟨hr, I2⟩ => ?_
    subst hr
    exact wpAny_pure (hR _ _ _ I2 q)
  · refine thn (T.item (blkX X sc N' cl s0 H0 fp xe) rfl rfl rfl hc i [] s1 σ1 H1 _ I1 (hfp fr1) st1 go) fun r s2 ⟨u, hr, h2⟩ => ?_
    subst hr
    refine wpAny_bind (thn h2 fun _ s3 ⟨x, H3, I3, r3, y3, st3, fr3⟩ => ?_)
    have I3' := I3.pinned (hfp fr3) (T.obj _ _ st3)
    refine wpAny_bind (thn (hg _ s3 σ1 H3 x u _ I3' r3 (step x H3 y3)) fun _ s4 ⟨σ4, H4, I4, q4⟩ => ?_)
    refine wpAny_bind (thn (ht _ s4 σ4 H4 _ I4 q4) fun ok s5 ⟨H5, I5, q5⟩ => ?_)
    have back : ∀ {σ6 : St} {H6 : Hp} {s6 : Shared} {zs : List V}, Inv (blkX X sc N' cl s0 H0 fp xe) ([] ++ pinsAt fp s3.heap) σ6 H6 s6 → N zs σ6 H6 →
        ∃ m, m < n ∧ ∃ i ys σ' H', Inv (blkX X sc N' cl s0 H0 fp xe) [] σ' H' s6 ∧ tn i s6.heap ∧ (∀ b ∈ fp, H' b = none) ∧ W i m ys σ' H' := fun {σ6 H6 s6 zs} I6 n6 => by
      obtain ⟨n', hm, w6⟩ := hN zs σ6 H6 n6
      refine ⟨n', hm, i + 1, zs, σ6, H6, I6.unpinned, T.keep _ _ _ st3 fun b hb o e => (I6.pin (b, o) (List.mem_append_right _ (List.mem_append_right _ (mem_pinsAt hb e)))).1, fun b hb => ?_, w6⟩
      obtain ⟨o, e, d⟩ := T.obj _ _ st3 b hb
      exact (I6.pin (b, o) (List.mem_append_right _ (List.mem_append_right _ (mem_pinsAt hb e)))).2.1
    cases ok with
    | false =>
      exact wpAny_pure ⟨rfl, back I5 q5⟩
    | true =>
      refine wpAny_bind (wpAny_bind (thn (he _ s5 σ4 H5 _ I5 q5) fun v s6 ⟨y, H6, I6, r6, q6⟩ => ?_))
      obtain ⟨hl, hz, w6⟩ := q6
      refine wpAny_bind (thn (mt_append (X := blkX X sc N' cl s0 H0 fp xe) _ s6 σ4 H6 (.ref l) [y] (.ref l) [v] (fun z H7 => z = .non ∧ H7 = upd H6 l (.lst (ys ++ [y]))) I6 rfl (.cons r6 .nil) ⟨l, ys, y, rfl, rfl, hl, hz, rfl, rfl⟩) fun z s7 ⟨_, H7, I7, _, _, e7⟩ => ?_)
      subst e7
      exact wpAny_pure (wpAny_pure ⟨rfl, back I7 w6⟩)
theorem Inv.moved {h' : Heap} {it : Addr} (I : Inv X pins σ H s) (k : ∀ b o, b ≠ it → s.heap.get? b = some o → h'.get? b = some o) (hn : H it = none) (h0 : X.s₀.heap.get? it = none) (hL : it ≠ X.env.locals)
    (h2 : ∀ x c, X.env.cells.lookup x = some c → c ≠ it) (h3 : ∀ p ∈ X.pn ++ pins, p.1 ≠ it) : Inv X pins σ H { s with heap := h' } := by
  have n0 : ∀ b o, X.s₀.heap.get? b = some o → b ≠ it := fun b o e z => by rw [z, h0] at e; cases e
  have nit : ∀ b u, H b = some u → b ≠ it := fun b u e z => by rw [z, hn] at e; cases e
  obtain ⟨m, hm, hl⟩ := I.loc
  refine ⟨I.ok, I.os, I.bare, ⟨fun b o e n hb hx => k b o (n0 b o e) (I.base.keep b o e n hb hx), fun b o e n hb hx => ?_, I.base.free, fun b o e hx => ?_, I.base.tups, I.base.frzs, I.base.tbls⟩, ⟨m, ?_, fun i x v e1 e2 e3 => ?_⟩, fun x c e => ?_, I.free, I.freeC, fun p hp => ?_, ?_, I.len⟩
  · obtain ⟨sl, e1⟩ := I.base.slot b o e n hb hx
    exact ⟨sl, k b _ (n0 b o e) e1⟩
  · obtain ⟨o', e1⟩ := I.base.there b o e hx
    exact ⟨o', k b _ (n0 b o e) e1⟩
  · obtain ⟨o, es, ep, ho, r⟩ := hm
    exact ⟨o, es, ep, k _ o (Ne.symm hL) ho, r⟩
  · obtain ⟨u, r, q⟩ := hl i x v e1 e2 e3
    refine ⟨u, r, q.imp id fun ⟨z, c, hc, o, ho, hd⟩ => ⟨z, c, hc, o, k c o (h2 x c hc) ho, hd⟩⟩
  · obtain ⟨v, o, ho, hd⟩ := I.cell x c e
    exact ⟨v, o, k c o (h2 x c e) ho, hd⟩
  · obtain ⟨e, r⟩ := I.pin p hp
    exact ⟨k _ _ (h3 p hp) e, r⟩
  · intro b ob e
    refine (I.hok b ob e).stay (fun c w' hc q => k c w' ?_ q) (fun _ q => q) fun _ _ q => q
    rcases hc with rfl | hc
    · exact nit _ _ e
    · exact nit _ _ hc
theorem blk_flies {N' : List Str} {cl : List (Str × Addr)} {fp : List Addr} {xe : Value → Shared → Prop} {E : XK} {pins' : List (Addr × Obj)} {σ' : St} {H1 : Hp} {s1 s' : Shared} {e : Value} {Q : Value → Shared → Prop} {acc : Value}
    (hst : X.stack = X.env :: X.outer) (hfr : X.env.frame = some X.env.locals) (hex : X.ex = []) (hB : Bears X E) (I : Inv X pins σ H s) (hf : ∀ b ∈ fp, FpOk X pins H b) (J : Inv (blkX X sc N' cl s H fp xe) pins' σ' H1 s1) (hx : CX1 X.prog X.w X.stack H1 s1 E e s') :
    notedBy (model X.prog X.w) X.A (blkX X sc N' cl s H fp xe).env (fun x s'' => compPost (model X.prog X.w) X.A X.xe none Q acc s.heap.objs.size (.error x) s'') e s' := by
  obtain ⟨a, C, T, H', rfl, os, bare, un, hok, ⟨oe, vs, oT, ts, a0, he, hcl, hd, h1, hTe, hT, hdT, h3⟩, na, nT, fa, fT, q⟩ := hx
  have J0 := blk_of J
  have J' : Inv (blkCx X sc N' cl s H fp) pins' σ' H' s' := J0.call' (ch := []) os un hok bare (fun _ z => nomatch z)
  have hl : s'.heap.FunFrames X.base X.stack := J'.stack
  have sf : ∀ b ∈ frs X.stack, H' b = none := J'.stkFree
  have nos : ∀ b ∈ [a, T], H' b = none := fun b z => by
    rcases List.mem_cons.mp z with rfl | z
    · exact na
    · rw [List.mem_singleton.mp z]; exact nT
  have news : ∀ b ∈ [a, T], s1.heap.get? b = none := fun b z => by
    rcases List.mem_cons.mp z with rfl | z
    · exact fa
    · rw [List.mem_singleton.mp z]; exact fT
  have hl' := funs_hid (ch := [a, T]) hl
  rw [hst] at hl'
  show wpAny _ X.A (noteFrame (.ref a) X.env) _ _ s'
  refine wpAny_noteFrame_onW (base := PySem.W.hideAll s'.heap ([a, T] ++ frs (X.env :: X.outer))) (cls := .ref C) (a0 := a0) (by rw [I.ok.frames, hst]) hl' hfr ⟨oe, vs, T, oT, ts, he, hcl, hd, h1, PySem.W.hideAll_none _ (by simp), hTe, hT, hdT, h3⟩
    hid_stays (PySem.W.hideAll_none _ (by simp)) fun h2 ⟨k1, k2, k3, k4⟩ => ?_
  rw [← hst] at k1 k3
  have mv : Mv [a, T] (frs X.stack) s'.heap h2 := mv_of_left k1 k4 hl rfl
  obtain ⟨oe', vs', T', oT', ts', p1, p2, p3, p4, p5, p6, p7, p8, p9, p10⟩ := fly_step (P := X.prog) (w := X.w) (h0 := s1.heap) (ch := [a, T]) (by simp) hl sf news nos hok (fun b o e => un.there b o e (fun z => nomatch z)) k1 k4 k3
  have J1 : Inv (blkCx X sc N' cl s H fp) pins' σ' H' { s' with heap := h2 } := J0.call' (s' := { s' with heap := h2 }) (ch := []) os (un.mv mv news) (hok.mv mv nos sf) bare (fun _ z => nomatch z)
  obtain ⟨m, hm, _⟩ := J1.loc
  obtain ⟨m0, hm0, _⟩ := J0.loc
  have IS : Inv X pins σ H1 { s1 with heap := s1.heap } := blk_back I hf J0 (.refl ..)
  have there : ∀ b o, s1.heap.get? b = some o → ∀ c, s1.heap.get? c = none → c ≠ b := fun b o e c ec z => by rw [← z, ec] at e; cases e
  obtain ⟨oC, _, _, hoC, _⟩ := hm0
  refine ⟨m, hm, fun h3 hs3 cenv hcenv => ?_⟩
  have IX : Inv X pins σ H' { s' with heap := h3 } := blk_back (s' := { s' with heap := h2 }) I hf J1 hs3
  have naC : a ≠ s.heap.objs.size := there _ oC hoC a fa
  have nTC : T' ≠ s.heap.objs.size := there _ oC hoC T' p10
  have ha3 : h3.get? a = some oe' := (hs3.2 a naC).trans p1
  have hT3 : h3.get? T' = some oT' := (hs3.2 T' nTC).trans p6
  have sz3 : 3 < ts'.size := (Array.getElem?_eq_some_iff.mp p8).1
  unfold PySem.passOn
  refine wpAny_bind (wpAny_field ha3 p3 p4 ?_)
  rw [if_neg (by simp)]
  unfold setFlight
  refine wpAny_bind (wpAny_bind (wpAny_field ha3 p3 p4 ?_))
  rw [if_pos (by simp)]
  refine wpAny_setField hT3 p7 sz3 (wpAny_throw ?_)
  have oth : ∀ b, b ≠ T' → (h3.update T' (Obj.mapFields (·.setIfInBounds 3 (cenv.frame.elim Value.none fun f => rawInt f)))).get? b = h3.get? b := fun b hb => Heap.get?_update_other _ _ (Ne.symm hb)
  obtain ⟨mX, ⟨oX, _, _, hoX, _⟩, _⟩ := IS.loc
  refine hB pins σ H' _ a C T' (cenv.frame.elim Value.none fun f => rawInt f) (IX.moved (fun b o hb e => (oth b hb).trans e) p9 (IS.newOut hex p10) (there _ oX hoX T' p10) (fun x c e => ?_) (fun p hp => ?_)) ⟨oe', vs', _, _, a0, (oth a (Ne.symm p5)).trans ha3, p2, p3, p4, p5, Heap.get?_update_self _ hT3 (Obj.isFreed_of_fields (Obj.data_mapFields p7 _)), Obj.data_mapFields p7 _, by simp [sz3]⟩ na p9 (IS.newOut hex fa) (IS.newOut hex p10) q
  · obtain ⟨v, o, ho, _⟩ := IS.cell x c e
    exact Ne.symm (there _ o ho T' p10)
  · exact Ne.symm (there _ _ (IS.pin p hp).1 T' p10)
theorem pe_comp1 {osc : Scope} {E : XK} (hst : X.stack = X.env :: X.outer) (hfr : X.env.frame = some X.env.locals) (hex : X.ex = []) (hB : Bears X E) (hc : X.calm = true) (hos : X.env.scope = osc) (S : BlkSc X.N osc own cap sc) (hi : PI X tg iter wi)
    (hg : ∀ cl s H fp xe, PG (blkX X sc (own ++ cap.map (·.1)) cl s H fp xe) tg g) (ht : ∀ cl s H fp xe, PTs (blkX X sc (own ++ cap.map (·.1)) cl s H fp xe) ifs tt)
    (he : ∀ cl s H fp xe, Passes (CX1 X.prog X.w) (blkX X sc (own ++ cap.map (·.1)) cl s H fp xe) E → PE (blkX X sc (own ++ cap.map (·.1)) cl s H fp xe) elt te)
    (hs : ∀ x, foldedSetIterable iter X.env x = pure x := by intro _; rfl) : PE X (.ListComp elt [⟨tg, iter, ifs, 0⟩] sc pos) (tComp wi own cap g tt te) := by
  intro pins s σ H Q I h
  obtain ⟨cl, hcl, h1, h2⟩ := clo_of (env := X.env) (sc := sc) fun y hy hf => I.ok.has y.1 (by have := S.free y hy hf; rw [← hos] at this; exact this)
  rw [eval_ListComp]
  refine wpAny_comprehension_free (use := none) rfl hs hcl S.kind S.names (thn (hi pins s σ H _ I h) fun xv s1 q1 => thn q1 fun itv s2 q2 => ?_)
  obtain ⟨it, fp, tn, J, H2, e, I2, T, st, hf, q⟩ := q2
  subst e
  replace q := q _ I2.fresh
  subst hos
  refine wpAny_newList ?_
  have I3 : Inv X pins σ (upd H2 s2.heap.objs.size (.lst [])) { s2 with heap := s2.heap.push { cls := .type "list", data := .seq ([] : List Value).toArray }, toks := s2.toks } := I2.lnew (t' := s2.toks) .nil (Nat.zero_le _)
  have ob : ∀ b ∈ fp, ∃ o, s2.heap.get? b = some o := fun b hb => let ⟨o, e, _⟩ := T.obj _ _ st b hb; ⟨o, e⟩
  have nb : ∀ b ∈ fp, b ≠ s2.heap.objs.size := fun b hb => let ⟨o, e⟩ := ob b hb; Nat.ne_of_lt (Heap.lt_size e)
  have f3 : ∀ b ∈ fp, FpOk X pins (upd H2 s2.heap.objs.size (.lst [])) b := fun b hb => ⟨by rw [upd_ne (nb b hb)]; exact (hf b hb).1, (hf b hb).2⟩
  have k3 : ∀ b o, s2.heap.get? b = some o → (s2.heap.push { cls := .type "list", data := .seq ([] : List Value).toArray }).get? b = some o := fun b o e => Heap.get?_push_of_some _ e
  generalize hS3 : ({ s2 with heap := s2.heap.push { cls := .type "list", data := .seq ([] : List Value).toArray }, toks := s2.toks } : Shared) = s3 at I3
  have e3 : s3.heap = s2.heap.push { cls := .type "list", data := .seq ([] : List Value).toArray } := by rw [← hS3]
  have ob3 : ∀ b ∈ fp, ∃ o, s3.heap.get? b = some o := fun b hb => let ⟨o, e⟩ := ob b hb; ⟨o, by rw [e3]; exact k3 b o e⟩
  have lt3 : ∀ b ∈ fp, b < s3.heap.objs.size := fun b hb => let ⟨o, e⟩ := ob3 b hb; Heap.lt_size e
  refine wpAny_newFunctionEnv S.nocell (by intro y hy; simp at hy) (fun h' hn hsb => ?_) S.kind
  have k4 : ∀ b o, s3.heap.get? b = some o → h'.get? b = some o := fun b o e => hsb.extBut b o (Nat.ne_of_lt (Heap.lt_size e)) (Heap.get?_push_of_some _ e)
  have J4 := blk_inv (tk := s3.toks + ([] : List (Str × Value)).length) I3 f3 ob3 S h1 h2 ⟨_, hn⟩ k4
  have st4 : tn 0 h' := T.keep _ _ _ st fun b _ o e => k4 b o (by rw [e3]; exact k3 b o e)
  let xe : Value → Shared → Prop := notedBy (model X.prog X.w) X.A (compEnvC sc cl s3.heap.objs.size X.env) (fun x s'' => compPost (model X.prog X.w) X.A X.xe none (EP X pins σ Q) (.ref s2.heap.objs.size) s3.heap.objs.size (.error x) s'')
  have hps : Passes (CX1 X.prog X.w) (blkX X sc (own ++ cap.map (·.1)) cl s3 (upd H2 s2.heap.objs.size (.lst [])) fp xe) E := fun _ _ _ _ _ _ J hx => blk_flies hst hfr hex hB I3 f3 J hx
  have loop : codeAny (model X.prog X.w) X.A (.compLoop (.ListComp elt [⟨tg, iter, ifs, 0⟩] sc pos) 0 (.ref it) (.ref s2.heap.objs.size) (blkX X sc (own ++ cap.map (·.1)) cl s3 (upd H2 s2.heap.objs.size (.lst [])) fp xe).env)
      (compPost (model X.prog X.w) X.A X.xe none (EP X pins σ Q) (.ref s2.heap.objs.size) s3.heap.objs.size) { s3 with heap := h', toks := s3.toks + ([] : List (Str × Value)).length } := by
    refine blk_loop1 hc T (fun {H'} hn b hb => ⟨hn b hb, Nat.ne_of_lt (lt3 b hb), fun z => ?_, .inl hb, fun x c e => (f3 b hb).2.2.2.2.1 x c (h1 x c e), fun p hp => absurd (show p ∈ ([] : List (Addr × Obj)) from hp) (by simp)⟩) (hg _ _ _ _ _) (ht _ _ _ _ _) (he _ _ _ _ _ hps) (blk_to J4) st4
      (fun b hb => (f3 b hb).1) q (fun _ _ y => y) fun σ' H' s' J q' => ?_
    · rcases List.mem_cons.mp (I3.stkSub b z) with z | z
      · exact (f3 b hb).2.1 z
      · exact (f3 b hb).2.2.1 z
    · obtain ⟨m, hm, _⟩ := J.loc
      exact ⟨m, hm, fun h'' hs'' => ⟨.ref s2.heap.objs.size, H', blk_back I3 f3 (blk_of J) hs'', rfl, q'⟩⟩
  exact codeAny_compStart_list loop (T.self _ _ _ _ _ st4 loop)
end
end L2

namespace K14
open PySem L2
set_option maxRecDepth 100000
def top (i : Nat) : Stmt := PySem.Challenge.pw_shelfruns_k14_texts_refused.main.body.getD i (.Pass ⟨0, 0, 0, 0⟩)
abbrev s__law_cell_at : Stmt := top 16
theorem sc__law_cell_at : FnScope ["script", "k"] ["script", "k"] (defScope s__law_cell_at) := ⟨rfl, rfl, rfl, by decide +kernel, rfl, by decide +kernel, by decide +kernel⟩
abbrev s__law_set : Stmt := top 18
theorem sc__law_set : FnScope ["cell", "many", "some", "book"] ["cell", "many"] (defScope s__law_set) := ⟨rfl, rfl, rfl, by decide +kernel, rfl, by decide +kernel, by decide +kernel⟩
abbrev s_read_many : Stmt := top 13
theorem sc_read_many : FnScope ["word"] ["word"] (defScope s_read_many) := ⟨rfl, rfl, rfl, by decide +kernel, rfl, by decide +kernel, by decide +kernel⟩
abbrev s_read_wish : Stmt := top 14
theorem sc_read_wish : FnScope ["many", "word", "rising"] ["many", "word"] (defScope s_read_wish) := ⟨rfl, rfl, rfl, by decide +kernel, rfl, by decide +kernel, by decide +kernel⟩
abbrev own_read_wish_c0 : List Str := ["figure"]
abbrev cap_read_wish_c0 : List (Str × Nat) := []
abbrev lc_read_wish_c0 : Scope := { kind := PySem.ScopeKind.function, names := [(PySem.Str.ofString ".0", PySem.NameKind.local), (PySem.Str.ofString "figure", PySem.NameKind.local), (PySem.Str.ofString "FIGURES", PySem.NameKind.globalImplicit)], isGenerator := false, isCoroutine := false, more := [] }
theorem nd_read_wish_c0 : (own_read_wish_c0 ++ cap_read_wish_c0.map (·.1)).Nodup := by decide +kernel
theorem bs_read_wish_c0 : BlkSc ["many", "word", "rising"] (defScope s_read_wish) own_read_wish_c0 cap_read_wish_c0 lc_read_wish_c0 := ⟨rfl, by decide +kernel, by decide +kernel, by decide +kernel, by decide +kernel⟩
abbrev own_read_wish_c1 : List Str := ["figure"]
abbrev cap_read_wish_c1 : List (Str × Nat) := [("word", 1)]
abbrev lc_read_wish_c1 : Scope := { kind := PySem.ScopeKind.function, names := [(PySem.Str.ofString ".0", PySem.NameKind.local), (PySem.Str.ofString "figure", PySem.NameKind.local), (PySem.Str.ofString "word", PySem.NameKind.free)], isGenerator := false, isCoroutine := false, more := [] }
theorem nd_read_wish_c1 : (own_read_wish_c1 ++ cap_read_wish_c1.map (·.1)).Nodup := by decide +kernel
theorem bs_read_wish_c1 : BlkSc ["many", "word", "rising"] (defScope s_read_wish) own_read_wish_c1 cap_read_wish_c1 lc_read_wish_c1 := ⟨rfl, by decide +kernel, by decide +kernel, by decide +kernel, by decide +kernel⟩
abbrev s_read : Stmt := top 12
theorem sc_read : FnScope ["text", "words", "many"] ["text"] (defScope s_read) := ⟨rfl, rfl, rfl, by decide +kernel, rfl, by decide +kernel, by decide +kernel⟩
abbrev own_read_c0 : List Str := ["word"]
abbrev cap_read_c0 : List (Str × Nat) := [("many", 2)]
abbrev lc_read_c0 : Scope := { kind := PySem.ScopeKind.function, names := [(PySem.Str.ofString ".0", PySem.NameKind.local), (PySem.Str.ofString "word", PySem.NameKind.local), (PySem.Str.ofString "read_wish", PySem.NameKind.globalImplicit), (PySem.Str.ofString "many", PySem.NameKind.free)], isGenerator := false, isCoroutine := false, more := [] }
theorem nd_read_c0 : (own_read_c0 ++ cap_read_c0.map (·.1)).Nodup := by decide +kernel
theorem bs_read_c0 : BlkSc ["text", "words", "many"] (defScope s_read) own_read_c0 cap_read_c0 lc_read_c0 := ⟨rfl, by decide +kernel, by decide +kernel, by decide +kernel, by decide +kernel⟩
abbrev s__law_whole : Stmt := top 17
theorem sc__law_whole : FnScope ["found"] ["found"] (defScope s__law_whole) := ⟨rfl, rfl, rfl, by decide +kernel, rfl, by decide +kernel, by decide +kernel⟩
abbrev s__law_sign_by : Stmt := top 22
theorem sc__law_sign_by : FnScope ["cell", "signs"] ["cell"] (defScope s__law_sign_by) := ⟨rfl, rfl, rfl, by decide +kernel, rfl, by decide +kernel, by decide +kernel⟩
abbrev s__law_odd : Stmt := top 23
theorem sc__law_odd : FnScope ["cell", "some"] ["cell"] (defScope s__law_odd) := ⟨rfl, rfl, rfl, by decide +kernel, rfl, by decide +kernel, by decide +kernel⟩
abbrev s__law_wish_told : Stmt := top 24
theorem sc__law_wish_told : FnScope ["word", "many", "wish", "sign", "at"] ["word", "many"] (defScope s__law_wish_told) := ⟨rfl, rfl, rfl, by decide +kernel, rfl, by decide +kernel, by decide +kernel⟩
abbrev s__law_due : Stmt := top 25
theorem sc__law_due : FnScope ["text", "words", "many", "wishes"] ["text"] (defScope s__law_due) := ⟨rfl, rfl, rfl, by decide +kernel, rfl, by decide +kernel, by decide +kernel⟩
abbrev own__law_due_c0 : List Str := ["word"]
abbrev cap__law_due_c0 : List (Str × Nat) := [("many", 2)]
abbrev lc__law_due_c0 : Scope := { kind := PySem.ScopeKind.function, names := [(PySem.Str.ofString ".0", PySem.NameKind.local), (PySem.Str.ofString "word", PySem.NameKind.local), (PySem.Str.ofString "_law_wish_told", PySem.NameKind.globalImplicit), (PySem.Str.ofString "many", PySem.NameKind.free)], isGenerator := false, isCoroutine := false, more := [] }
theorem nd__law_due_c0 : (own__law_due_c0 ++ cap__law_due_c0.map (·.1)).Nodup := by decide +kernel
theorem bs__law_due_c0 : BlkSc ["text", "words", "many", "wishes"] (defScope s__law_due) own__law_due_c0 cap__law_due_c0 lc__law_due_c0 := ⟨rfl, by decide +kernel, by decide +kernel, by decide +kernel, by decide +kernel⟩
abbrev s__law_told : Stmt := top 26
theorem sc__law_told : FnScope ["text", "told", "e", "some"] ["text"] (defScope s__law_told) := ⟨rfl, rfl, rfl, by decide +kernel, rfl, by decide +kernel, by decide +kernel⟩
abbrev s__law_spoiled : Stmt := top 27
theorem sc__law_spoiled : FnScope ["text", "cell", "other", "at"] ["text", "cell", "other"] (defScope s__law_spoiled) := ⟨rfl, rfl, rfl, by decide +kernel, rfl, by decide +kernel, by decide +kernel⟩
abbrev s_law : Stmt := top 28
theorem sc_law : FnScope ["script", "many", "text", "k", "some", "due", "found"] ["script"] (defScope s_law) := ⟨rfl, rfl, rfl, by decide +kernel, rfl, by decide +kernel, by decide +kernel⟩
abbrev own_law_c0 : List Str := ["book"]
abbrev cap_law_c0 : List (Str × Nat) := []
abbrev lc_law_c0 : Scope := { kind := PySem.ScopeKind.function, names := [(PySem.Str.ofString ".0", PySem.NameKind.local), (PySem.Str.ofString "book", PySem.NameKind.local)], isGenerator := false, isCoroutine := false, more := [] }
theorem nd_law_c0 : (own_law_c0 ++ cap_law_c0.map (·.1)).Nodup := by decide +kernel
theorem bs_law_c0 : BlkSc ["script", "many", "text", "k", "some", "due", "found"] (defScope s_law) own_law_c0 cap_law_c0 lc_law_c0 := ⟨rfl, by decide +kernel, by decide +kernel, by decide +kernel, by decide +kernel⟩
structure Txt (K : PySem.W.Frag) (mg : Str → Option Value) : Prop where
  b_len : mg "len" = none
  b_range : mg "range" = none
  b_isinstance : mg "isinstance" = none
  b_bool : mg "bool" = none
  b_int : mg "int" = none
  b_ValueError : mg "ValueError" = none
  b_list : mg "list" = none
  b_tuple : mg "tuple" = none
  b_str : mg "str" = none
  errs : Errs K mg
  c_FIGURES : ∃ u, mg "FIGURES" = some u ∧ RelV (.str "12345678") u
  c_NO_BOOKS : ∃ u, mg "NO_BOOKS" = some u ∧ RelV (.str "-") u
  c_MOST_WISHES : ∃ u, mg "MOST_WISHES" = some u ∧ RelV (.int 12) u
  d__law_cell_at : TDef K mg "_law_cell_at" s__law_cell_at ["script", "k"]
  d__law_set : TDef K mg "_law_set" s__law_set ["cell", "many"]
  d_read_many : TDef K mg "read_many" s_read_many ["word"]
  d_read_wish : TDef K mg "read_wish" s_read_wish ["many", "word"]
  d_read : TDef K mg "read" s_read ["text"]
  d__law_whole : TDef K mg "_law_whole" s__law_whole ["found"]
  d__law_sign_by : TDef K mg "_law_sign_by" s__law_sign_by ["cell"]
  d__law_odd : TDef K mg "_law_odd" s__law_odd ["cell"]
  d__law_wish_told : TDef K mg "_law_wish_told" s__law_wish_told ["word", "many"]
  d__law_due : TDef K mg "_law_due" s__law_due ["text"]
  d__law_told : TDef K mg "_law_told" s__law_told ["text"]
  d__law_spoiled : TDef K mg "_law_spoiled" s__law_spoiled ["text", "cell", "other"]
end K14
namespace K14
open PySem L2
set_option maxRecDepth 100000
set_option maxHeartbeats 4000000
section
variable {P : Program} {w : World} {K : PySem.W.Frag} {mg : Str → Option Value} {base : Heap}
def spCell (K : PySem.W.Frag) : Sp := fun vs H Q _ => ∃ (a : Addr) (ns : List Int) (k : Int), vs = [.ref a, .int k] ∧ SqL K H a (ns.map V.int) ∧ 0 ≤ k ∧ ∀ z, Q (.int z) H
theorem ok__law_cell_at (T : Txt K mg) : Cal P w K mg base 1 "_law_cell_at" ["script", "k"] (spCell K) := by
  refine T.d__law_cell_at.ok sc__law_cell_at (fun vs H Q E h => ?_) (fun f cdv A outer s H vs Q E hr h => ?_)
  · obtain ⟨a, ns, k, rfl, _⟩ := h
    rfl
  · obtain ⟨a, ns, k, rfl, hS, h0, q⟩ := h
    refine ⟨_, (pss_cons (ps_if (pt_cmpR op_lt (pv 1) (pe_callB (k_len (K := K) rfl) rfl T.b_len PySem.boot_len (pa_cons (pv 0) pa_nil)) (nomark _)) (pss_one (ps_ret (pe_ix (k_ixL (K := K) rfl) (pv 0) (pv 1) (fun _ _ => rfl)))) pss_nil) (pss_one (ps_ret pe_int))), ?_⟩
    refine ⟨_, rfl, _, rfl, a, _, rfl, .inl hS, _, _, rfl, rfl, _, rfl, ?_⟩
    refine ite2 (fun hk => ?_) (fun hk => ?_)
    · have hk : k < (((ns.map V.int).length : Nat) : Int) := of_decide_eq_true hk
      rw [List.length_map] at hk
      have e : (ns.map V.int)[k.toNat]? = some (V.int (ns.getD k.toNat 0)) := by
        have : k.toNat < ns.length := by omega
        simp [this]
      refine ⟨_, rfl, _, rfl, a, _, k, V.int (ns.getD k.toNat 0), rfl, rfl, hS, ?_, q _⟩
      have e2 := atI_nat e
      rwa [Int.toNat_of_nonneg h0] at e2
    · exact q 0

def spSet : Sp := fun vs H Q _ => ∃ (cell : Int) (many : Nat), vs = [.int cell, .int many] ∧ many ≤ 8 ∧
  ∀ l (ns : List Int) H', H l = none → Same H H' → H' l = some (.lst (ns.map V.int)) → Sh.Good many ns → ns.Pairwise (· < ·) → Q (.ref l) H'
theorem ok__law_set (T : Txt K mg) : Cal P w K mg base 1 "_law_set" ["cell", "many"] spSet := by
  refine T.d__law_set.ok sc__law_set (fun vs H Q E h => ?_) (fun f cdv A outer s H vs Q E hr h => ?_)
  · obtain ⟨c, m, rfl, _⟩ := h
    rfl
  · obtain ⟨c, m, rfl, hm, q⟩ := h
    refine ⟨_, (pss_cons (ps_set (i := 2) sc__law_set.nd rfl (Or.inl rfl) (pe_lst pa_nil)) (pss_cons (ps_for PassesOwn.never rfl (pi_range1 rfl T.b_range (pa_cons (pv 1) pa_nil)) (pg_name (i := 3) sc__law_set.nd rfl (Or.inl rfl)) (pss_cons (ps_if (pt_cmpR op_eq (pe_op op_mod (pv 0) pe_int) pe_int (nomark _)) (pss_one (ps_expr (pe_bm PySem.F.plainAttrs_list PySem.F.slot_list_append PySem.F.type_list_append mt_append (pv 2) (pa_cons (pv 3) pa_nil)))) pss_nil) (pss_one (ps_set (i := 0) sc__law_set.nd rfl (Or.inl rfl) (pe_op op_fdiv (pv 0) pe_int))))) (pss_one (ps_ret (pv 2))))), ?_⟩
    refine ⟨Nat.zero_le _, fun l hl => ?_⟩
    refine ⟨_, rfl, (m : Int), rfl, by omega, by omega, for_range (n := ((m : Int)).toNat) (fun i σ H' => ∃ (c' : Int) (bk : Option V) (ns : List Int), σ = [some (.int c'), some (.int m), some (.ref l), bk] ∧ Same H H' ∧ H' l = some (.lst (ns.map V.int)) ∧ (∀ b ∈ ns, 0 ≤ b ∧ b < (i : Int)) ∧ ns.length ≤ i ∧ ns.Pairwise (· < ·))
      ⟨c, none, [], rfl, Same.new hl, upd_same, fun b hb => absurd hb (List.not_mem_nil), Nat.le_refl _, .nil⟩ ?_ ?_⟩
    · rintro i σ H' hi ⟨c', bk, ns, rfl, s1, hL, hb, hn, hpw⟩
      refine ⟨_, rfl, _, _, rfl, rfl, (by show (0 : Int) < 2; decide), rfl, _, rfl, ?_⟩
      refine ite2 (fun _ => ?_) (fun _ => ?_)
      · refine ⟨_, rfl, .inl ⟨rfl, _, SqL.of hL⟩, _, rfl, l, _, _, rfl, rfl, hL, ?_, ?_⟩
        · rw [List.length_map]
          exact small1000 (by omega)
        · refine ⟨_, rfl, _, _, rfl, rfl, ⟨by decide, by decide⟩, _, _, ns ++ [0 + (i : Int)], rfl, s1.put hl, ?_, fun b hb' => ?_, ?_, ?_⟩
          · rw [upd_same, List.map_append]
            rfl
          · rcases List.mem_append.mp hb' with z | z
            · have := hb b z
              omega
            · have z : b = 0 + (i : Int) := List.mem_singleton.mp z
              omega
          · rw [List.length_append]
            exact Nat.add_le_add_right hn 1
          · refine List.pairwise_append.mpr ⟨hpw, List.pairwise_singleton _ _, fun x hx y hy => ?_⟩
            have hy : y = 0 + (i : Int) := List.mem_singleton.mp hy
            have := hb x hx
            omega
      · refine ⟨_, rfl, _, _, rfl, rfl, ⟨by decide, by decide⟩, _, _, ns, rfl, s1, hL, fun b z => ?_, by omega, hpw⟩
        have := hb b z
        omega
    · rintro σ H' ⟨c', bk, ns, rfl, s1, hL, hb, hn, hpw⟩
      refine ⟨_, rfl, q l ns H' hl s1 hL ⟨fun b z => ?_, by omega⟩ hpw⟩
      have := hb b z
      omega


end
end K14
namespace K14
open PySem L2
set_option maxRecDepth 100000
set_option maxHeartbeats 4000000
section
variable {P : Program} {w : World} {K : PySem.W.Frag} {mg : Str → Option Value} {base : Heap}
theorem e32 : (Str.ofString " ") = ⟨#[32]⟩ := by decide +kernel
theorem e45 : (Str.ofString "-") = ⟨#[45]⟩ := by decide +kernel
theorem e58 : (Str.ofString ":") = ⟨#[58]⟩ := by decide +kernel
theorem fig8 : (Str.ofString "12345678").length ≤ sizeLine := by decide +kernel
theorem line_of {n : Nat} (h : n < 1000) : n ≤ sizeLine := Nat.le_of_lt (small1000 (by omega))
theorem pl_line {x : Str} (h : Sh.Pl 299 x) : x.length ≤ sizeLine := line_of (by have := h.len; omega)
theorem hd_in {m : Nat} (h1 : 1 ≤ m) (h8 : m ≤ 8) : Builtin.Str.occurrences (Str.ofString "12345678") ⟨#[48 + m]⟩ 0 (Str.ofString "12345678").length 1 = [m - 1] := by
  have : m = 1 ∨ m = 2 ∨ m = 3 ∨ m = 4 ∨ m = 5 ∨ m = 6 ∨ m = 7 ∨ m = 8 := by omega
  rcases this with rfl | rfl | rfl | rfl | rfl | rfl | rfl | rfl <;> decide +kernel
theorem one_str {c d : Nat} (h : (⟨#[c]⟩ : Str) = ⟨#[d]⟩) : c = d := by
  have := congrArg (fun z : Str => z.cps.toList) h
  exact (List.cons.inj this).1
def spReadM1 (mg : Str → Option Value) : Sp := fun vs H Q E => ∃ x : Str, vs = [.str x] ∧ Sh.Pl 299 x ∧ (∀ m : Nat, 1 ≤ m → m ≤ 8 → x = Sh.hd m → Q (.int m) H) ∧ ((∀ m, 1 ≤ m → m ≤ 8 → x ≠ Sh.hd m) → E (.ref (aCls mg "BadLine")) none H)
theorem ok_read_many (T : Txt K mg) : Cal1 P w K mg base 1 "read_many" ["word"] (spReadM1 mg) := by
  refine T.d_read_many.ok1 sc_read_many (fun vs H Q E h => ?_) (fun f cdv A outer s H vs Q E hr h => ?_)
  · obtain ⟨x, rfl, _⟩ := h
    rfl
  · obtain ⟨x, rfl, hp, q1, q2⟩ := h
    refine ⟨_, (pss_cons (ps_if (PW.pt (pw_or (pt_cmpR op_ne (pe_callB call_len_str rfl T.b_len PySem.boot_len (pa_cons (pv 0) pa_nil)) pe_int (nomark _)) (pw_or (pt_cmpR op_notin_str (pe_ix ix_str (pv 0) pe_int (fun _ _ => rfl)) (pe_cst T.c_FIGURES rfl) rfl) (pw_or1 (pt_cmpR op_ne (pe_ix ix_str (pv 0) pe_int (fun _ _ => rfl)) pe_str (nomark _)))))) (pss_one (ps_raise (T.errs.ex (i := 6) rfl) rfl (T.errs.g _ (by decide)) thrown1 rfl (pe_fstrB (PBs.cons (pb_repr (pv 0)) (PBs.cons pb_lit PBs.nil))))) pss_nil) (pss_one (ps_ret (pe_op op_add (pe_sm PySem.F.slot_str_index PySem.F.type_str_index mt_sindex (pe_cst T.c_FIGURES rfl) (pa_cons (pe_ix ix_str (pv 0) pe_int (fun _ _ => rfl)) pa_nil)) pe_int)))), ?_⟩
    have sz := pl_line hp
    have rp := hp.repr (by decide)
    refine ⟨_, rfl, _, rfl, sz, rfl, _, rfl, ?_⟩
    refine ite2 (fun e => ?_) (fun e => ?_)
    · refine ⟨_, rfl, x, rfl, rp, fun _ => q2 fun m _ _ z => ?_⟩
      rw [z, decide_eq_true (show V.int ((Sh.hd m).length : Int) = V.int 2 from rfl)] at e
      exact absurd e (by decide)
    have l2 : x.length = 2 := by
      cases c : decide (V.int (x.length : Int) = V.int 2) with
      | true => have := V.int.inj (of_decide_eq_true c); omega
      | false => rw [c] at e; exact absurd rfl e
    obtain ⟨c, d, rfl⟩ := Sh.two_signs l2
    have hc : c < 128 := hp.low c (by simp)
    refine ⟨_, rfl, _, _, c, rfl, rfl, sz, rfl, _, _, rfl, rfl, _, rfl, ?_⟩
    rw [Sh.occ_fig hc]
    refine ite2 (fun e => ?_) (fun e => ?_)
    · refine ⟨_, rfl, _, rfl, rp, fun _ => q2 fun m h1 h8 z => ?_⟩
      have := congrArg (fun z : Str => z.cps.toList) z
      have h2 : c = 48 + m := (List.cons.inj this).1
      rw [decide_eq_true (by omega)] at e
      exact absurd e (by decide)
    have hf : 49 ≤ c ∧ c ≤ 56 := by
      cases k : decide (49 ≤ c ∧ c ≤ 56) with
      | true => exact of_decide_eq_true k
      | false => rw [k] at e; exact absurd rfl e
    refine ⟨_, rfl, _, _, d, rfl, rfl, sz, rfl, rfl, _, rfl, ?_⟩
    rw [e58]
    refine ite2 (fun e => ?_) (fun e => ?_)
    · refine ⟨_, rfl, _, rfl, rp, fun _ => q2 fun m h1 h8 z => ?_⟩
      have := congrArg (fun z : Str => z.cps.toList) z
      have h2 : d = 58 := (List.cons.inj (List.cons.inj this).2).1
      rw [h2, decide_eq_true rfl] at e
      exact absurd e (by decide)
    have hd58 : d = 58 := by
      cases k : decide (V.str ⟨#[d]⟩ = V.str ⟨#[58]⟩) with
      | true => exact one_str (V.str.inj (of_decide_eq_true k))
      | false => rw [k] at e; exact absurd rfl e
    subst hd58
    obtain ⟨m, rfl⟩ : ∃ m, c = 48 + m := ⟨c - 48, by omega⟩
    refine ⟨_, rfl, _, rfl, _, _, 48 + m, rfl, rfl, sz, rfl, _, _, m - 1, [], rfl, rfl, hd_in (by omega) (by omega), _, _, rfl, rfl, ?_⟩
    show Q (V.int (((m - 1 : Nat) : Int) + 1)) H
    rw [show (((m - 1 : Nat) : Int) + 1) = (m : Int) by omega]
    exact q1 m (by omega) (by omega) rfl

def spReadW1 (mg : Str → Option Value) : Sp := fun vs H Q E => ∃ (m : Nat) (x : Str), vs = [.int m, .str x] ∧ 1 ≤ m ∧ m ≤ 8 ∧ Sh.Pl 299 x ∧ (∀ w, Sh.Ris m w → x = Sh.word w → ∀ l H', H l = none → Same H H' → H' l = some (.lst (w.map V.int)) → Q (.ref l) H') ∧
  ((∀ w, Sh.Ris m w → x ≠ Sh.word w) → ∀ H', Same H H' → E (.ref (aCls mg "BadLine")) none H')
theorem ris_of {m : Nat} {x : Str} {w : List Int} (hw : Sh.Ris m w) (e : x = Sh.figs w) : (Sh.rangeI m).filter (fun b => decide (49 + b.toNat ∈ x.cps.toList)) = w := by
  have := Sh.ris_back hw
  refine Eq.trans (List.filter_congr fun b hb => decide_eq_decide.mpr ?_) this
  rw [e, Sh.figs_list]
  have b0 := (Sh.mem_rangeI.mp hb).1
  constructor
  · intro h
    obtain ⟨y, hy, ey⟩ := List.mem_map.mp h
    have := (hw.lt y hy).1
    obtain rfl : y = b := by omega
    exact hy
  · exact fun h => List.mem_map.mpr ⟨b, h, rfl⟩
theorem ok_read_wish (T : Txt K mg) : Cal1 P w K mg base 1 "read_wish" ["many", "word"] (spReadW1 mg) := by
  refine T.d_read_wish.ok1 sc_read_wish (fun vs H Q E h => ?_) (fun f cdv A outer s H vs Q E hr h => ?_)
  · obtain ⟨m, x, rfl, _⟩ := h
    rfl
  · obtain ⟨m, x, rfl, h1, h8, hp, q1, q2⟩ := h
    refine ⟨_, (pss_cons (ps_if (pt_cmpR op_eq (pv 1) (pe_cst T.c_NO_BOOKS rfl) (nomark _)) (pss_one (ps_ret (pe_lst pa_nil))) pss_nil) (pss_cons (ps_comp (i := 2) (own := own_read_wish_c1) (cap := cap_read_wish_c1) rfl rfl bs_read_wish_c1 sc_read_wish.nd rfl rfl rfl (pi_str (pe_slice sl_str (pe_cst T.c_FIGURES rfl) po_none (po_some (pv 0)))) (fun _ _ _ _ => (pg_name (i := 0) nd_read_wish_c1 rfl (Or.inl rfl) (Or.inr rfl))) (fun _ _ _ _ => (pts_one (pt_cmpR op_in_str (pv 0) (pv 1) rfl))) (fun _ _ _ _ => (pv 0))) (pss_cons (ps_if (PW.pt (pw_or (pt_cmpR op_eq (pe_callB (k_len (K := K) rfl) rfl T.b_len PySem.boot_len (pa_cons (pv 2) pa_nil)) pe_int (nomark _)) (pw_or1 (pt_cmpR op_ne (pe_sm PySem.F.slot_str_join PySem.F.type_str_join mt_join pe_str (pa_cons (pv 2) pa_nil)) (pv 1) (nomark _))))) (pss_one (ps_raise (T.errs.ex (i := 6) rfl) rfl (T.errs.g _ (by decide)) thrown1 rfl (pe_fstrB (PBs.cons (pb_repr (pv 1)) (PBs.cons pb_lit (PBs.cons (pb_int (pv 0)) (PBs.cons pb_lit PBs.nil))))))) pss_nil) (pss_one (ps_ret (pe_comp (own := own_read_wish_c0) (cap := cap_read_wish_c0) rfl rfl bs_read_wish_c0 (k_list (K := K) rfl (pv 2)) (fun _ _ _ _ => (pg_name (i := 0) nd_read_wish_c0 rfl (Or.inl rfl) (Or.inr rfl))) (fun _ _ _ _ => pts_nil) (fun _ _ _ _ => (pe_sm PySem.F.slot_str_index PySem.F.type_str_index mt_sindex (pe_cst T.c_FIGURES rfl) (pa_cons (pv 0) pa_nil))))))))), ?_⟩
    have sz := pl_line hp
    have rp := hp.repr (by decide)
    have lg : (m : Int).natAbs.log2 < 1920 := Nat.lt_of_le_of_lt (Nat.log2_le_self _) (by omega)
    refine ⟨_, rfl, rfl, _, rfl, ?_⟩
    rw [e45]
    refine ite2 (fun e => ?_) (fun e => ?_)
    · have ex : x = ⟨#[45]⟩ := V.str.inj (of_decide_eq_true e)
      exact ⟨Nat.zero_le _, fun l fl => q1 [] (Sh.Ris.nil m) ex l _ fl (Same.new fl) upd_same⟩
    have nx : x ≠ ⟨#[45]⟩ := fun z => e (decide_eq_true (by rw [z]))
    obtain ⟨r, hr0⟩ : ∃ r, (Sh.rangeI m).filter (fun b => decide (49 + b.toNat ∈ x.cps.toList)) = r := ⟨_, rfl⟩
    have rr : Sh.Ris m r := by rw [← hr0]; exact Sh.filter_ris m _
    have of_w : ∀ w, Sh.Ris m w → x = Sh.word w → w ≠ [] ∧ r = w ∧ x = Sh.figs r := fun w hw ew => by
      obtain ⟨n0, e1⟩ := Sh.dash_ne (w := w) (fun z => nx (ew.trans z))
      have e2 := ris_of hw (ew.trans e1)
      rw [hr0] at e2
      exact ⟨n0, e2, by rw [e2]; exact ew.trans e1⟩
    refine ⟨_, rfl, _, rfl, _, rfl, fig8, _, rfl, fun l2 f2 => ?_⟩
    rw [Sh.fig_cut h1 h8]
    have lenF : (Sh.figs (Sh.rangeI m)).cps.size = m := by
      have := Sh.figs_len (Sh.rangeI m)
      rw [Sh.rangeI_len] at this
      exact this
    refine c_str (x := Sh.figs (Sh.rangeI m)) (fun i ys σ H' => ∃ u, σ = [u, some (.str x)] ∧ Same H H' ∧ H' l2 = some (.lst ys) ∧ ys = ((Sh.rangeI i).filter fun b => decide (49 + b.toNat ∈ x.cps.toList)).map fun b => V.str (Sh.figs [b]))
      ⟨none, rfl, Same.new f2, upd_same, rfl⟩ ?_ ?_
    · rintro i c ys σ H' hi ⟨u, rfl, s2, hL, rfl⟩
      have hiM : i < m := by
        have := (Array.getElem?_eq_some_iff.mp hi).1
        omega
      have hc : c = 49 + i := by
        have e1 : (Sh.figs (Sh.rangeI m)).cps.toList[i]? = some c := by rw [← hi]; simp
        rw [Sh.figs_list, List.getElem?_map] at e1
        unfold Sh.rangeI at e1
        rw [List.getElem?_map, List.getElem?_range hiM] at e1
        have : 49 + ((i : Int)).toNat = c := Option.some.inj e1
        omega
      subst hc
      refine ⟨_, rfl, _, rfl, _, _, rfl, rfl, _, rfl, ?_⟩
      rw [StrLaws.found_one]
      have ef : (⟨#[49 + i]⟩ : Str) = Sh.figs [(i : Int)] := rfl
      rw [ef]
      refine ite2 (fun hz => ?_) (fun hz => ?_)
      · refine ⟨_, rfl, hL, ?_, _, rfl, s2.put f2, upd_same, ?_⟩
        · rw [List.length_map]
          have := List.length_filter_le (fun b => decide (49 + b.toNat ∈ x.cps.toList)) (Sh.rangeI i)
          rw [Sh.rangeI_len] at this
          exact small1000 (by omega)
        · rw [Sh.rangeI_succ, List.filter_append, List.map_append, List.filter_cons_of_pos (a := (i : Int)) (p := fun b : Int => decide (49 + b.toNat ∈ x.cps.toList)) hz]
          rfl
      · refine ⟨_, rfl, s2, hL, ?_⟩
        rw [Sh.rangeI_succ, List.filter_append, List.map_append, List.filter_cons_of_neg (a := (i : Int)) (p := fun b : Int => decide (49 + b.toNat ∈ x.cps.toList)) hz, List.filter_nil, List.map_nil, List.append_nil]
    · rintro ys σ H' ⟨u, rfl, s2, hL, rfl⟩
      rw [lenF, hr0] at hL
      have n8 : r.length ≤ 8 := Nat.le_trans rr.len h8
      have el : r.map (fun b => V.str (Sh.figs [b])) = (r.map fun b => Sh.figs [b]).map V.str := by rw [List.map_map]; rfl
      refine ⟨_, rfl, l2, _, rfl, .inl (SqL.of hL), rfl, _, rfl, ?_⟩
      rw [List.length_map]
      have rz : ∀ H2, Same H H2 → (∀ w, Sh.Ris m w → x ≠ Sh.word w) → E (.ref (aCls mg "BadLine")) none H2 := fun H2 s3 no => q2 no H2 s3
      refine ite2 (fun e => ?_) (fun e => ?_)
      · refine ⟨_, rfl, x, rfl, rp, _, rfl, _, rfl, lg, fun _ => rz _ s2 fun w hw ew => ?_⟩
        obtain ⟨n0, e1, _⟩ := of_w w hw ew
        have := V.int.inj (of_decide_eq_true e)
        exact n0 (by rw [← e1]; exact List.length_eq_zero_iff.mp (by omega))
      have nr : r ≠ [] := fun z => e (decide_eq_true (by rw [z]; rfl))
      rw [el] at hL
      refine ⟨_, rfl, _, rfl, _, l2, _, rfl, rfl, hL, by decide +kernel, ?_, ?_⟩
      · have : ∀ v : List Int, ((v.map fun b => Sh.figs [b]).map (·.length)).sum = v.length := fun v => by
          rw [List.map_map]
          induction v with
          | nil => rfl
          | cons a r ih => rw [List.map_cons, List.sum_cons, List.length_cons, ih]; show 1 + _ = _; omega
        rw [this, List.length_map]
        omega
      rw [Sh.join_figs (by decide +kernel)]
      refine ⟨_, rfl, rfl, _, rfl, ?_⟩
      refine ite2 (fun e => ?_) (fun e => ?_)
      · refine ⟨_, rfl, x, rfl, rp, _, rfl, _, rfl, lg, fun _ => rz _ s2 fun w hw ew => ?_⟩
        obtain ⟨_, _, e2⟩ := of_w w hw ew
        rw [e2, decide_eq_true rfl] at e
        exact absurd e (by decide)
      have ex : Sh.figs r = x := by
        cases k : decide (V.str (Sh.figs r) = V.str x) with
        | true => exact V.str.inj (of_decide_eq_true k)
        | false => rw [k] at e; exact absurd rfl e
      refine ⟨_, rfl, l2, rfl, ⟨_, SqL.of hL⟩, fun l3 f3 => ?_⟩
      refine c_list (K := K) (a := l2) (xs := (r.map fun b => Sh.figs [b]).map V.str) (fun i ys σ H2 => ∃ u, σ = [u] ∧ Same H' H2 ∧ H2 l3 = some (.lst ys) ∧ ys = (r.take i).map V.int)
        ⟨none, rfl, Same.new f3, upd_same, rfl⟩ (fun i ys σ H2 _ ⟨_, _, z, _⟩ => SqL.of (z _ _ hL)) ?_ ?_
      · rintro i y ys σ H2 hi ⟨u, rfl, s3, hL3, rfl⟩
        rw [List.getElem?_map, List.getElem?_map] at hi
        cases e : r[i]? with
        | none => rw [e] at hi; cases hi
        | some z =>
          rw [e] at hi
          obtain rfl : V.str (Sh.figs [z]) = y := Option.some.inj hi
          have hz := rr.lt z (List.mem_of_getElem? e)
          refine ⟨_, rfl, _, rfl, _, _, z.toNat, [], rfl, rfl, Sh.fig_index hz.1 (by omega), hL3, ?_, _, rfl, s3.put f3, upd_same, ?_⟩
          · rw [List.length_map]
            exact small1000 (by have := List.length_take_le' i r; omega)
          · rw [List.take_add_one, e, Option.toList_some, List.map_append, show ((z.toNat : Nat) : Int) = z by omega]
            rfl
      · rintro ys σ H2 ⟨u, rfl, s3, hL3, rfl⟩
        rw [List.length_map, List.length_map, List.take_length] at hL3
        refine q1 r rr ?_ l3 H2 (s2.free f3) (s2.trans s3) hL3
        rw [← ex]
        unfold Sh.word
        rw [if_neg nr]

def spRead1 (mg : Str → Option Value) : Sp := fun vs H Q E => ∃ z : Str, vs = [.str z] ∧ Sh.Pl 299 z ∧
  (∀ m ws, Sh.OkT z m ws → ∀ t lw as H', H t = none → Same H H' → H' t = some (.tup [.int (m : Nat), .ref lw]) → Own H H' lw as ws → Q (.ref t) H') ∧ ((∀ m ws, ¬ Sh.OkT z m ws) → ∀ H', Same H H' → E (.ref (aCls mg "BadLine")) none H')
theorem ok_read (T : Txt K mg) : Cal1 P w K mg base 2 "read" ["text"] (spRead1 mg) := by
  have C_read_many := ok_read_many (P := P) (w := w) (base := base) T
  have C_read_wish := ok_read_wish (P := P) (w := w) (base := base) T
  refine T.d_read.ok1 sc_read (fun vs H Q E h => ?_) (fun f cdv A outer s H vs Q E hr h => ?_)
  · obtain ⟨z, rfl, _⟩ := h
    rfl
  · obtain ⟨z, rfl, hp, q1, q2⟩ := h
    refine ⟨_, (pss_cons (ps_set (i := 1) sc_read.nd rfl (Or.inl rfl) (pe_sm PySem.F.slot_str_split PySem.F.type_str_split mt_split (pv 0) (pa_cons pe_str pa_nil))) (pss_cons (ps_set (i := 2) sc_read.nd rfl (Or.inr rfl) (pe_cal1 pass1 C_read_many (hr.mono (by first | decide | omega)) rfl (pa_cons (pe_ix (k_ixL (K := K) rfl) (pv 1) pe_int (fun _ _ => rfl)) pa_nil))) (pss_cons (ps_if (pt_cmpR op_gt (pe_op op_sub (pe_callB (k_len (K := K) rfl) rfl T.b_len PySem.boot_len (pa_cons (pv 1) pa_nil)) pe_int) (pe_cst T.c_MOST_WISHES rfl) (nomark _)) (pss_one (ps_raise (T.errs.ex (i := 6) rfl) rfl (T.errs.g _ (by decide)) thrown1 rfl (pe_fstrB (PBs.cons pb_lit (PBs.cons (pb_int (pe_cst T.c_MOST_WISHES rfl)) (PBs.cons pb_lit PBs.nil)))))) pss_nil) (pss_one (ps_ret (pe_tup (pa_cons (pv 2) (pa_cons (pe_comp1 rfl rfl rfl bears1 (own := own_read_c0) (cap := cap_read_c0) rfl rfl bs_read_c0 (k_list (K := K) rfl (pe_slice (k_slL (K := K) rfl) (pv 1) (po_some pe_int) po_none)) (fun _ _ _ _ _ => (pg_name (i := 0) nd_read_c0 rfl (Or.inl rfl) (Or.inr rfl))) (fun _ _ _ _ _ => pts_nil) (fun _ _ _ _ _ hx => (pe_cal1 hx C_read_wish (hr.mono (by first | decide | omega)) rfl (pa_cons (pv 1) (pa_cons (pv 0) pa_nil))))) pa_nil)))))))), ?_⟩
    refine ⟨_, rfl, _, rfl, _, _, rfl, rfl, by decide +kernel, line_of (by have := hp.len; omega), fun lw0 f0 => ?_⟩
    rw [e32]
    obtain ⟨w0, r, hsp⟩ : ∃ w0 r, PySem.Txt.split z ⟨#[32]⟩ = w0 :: r := by
      have := PyProof.Rows.split_pos z ⟨#[32]⟩
      cases e : PySem.Txt.split z ⟨#[32]⟩ with
      | nil => rw [e] at this; simp at this
      | cons a l => exact ⟨a, l, rfl⟩
    have plW : ∀ x ∈ w0 :: r, Sh.Pl 299 x := fun x hx => hp.part (by rw [hsp]; exact hx)
    have lenR : r.length ≤ 300 := by
      have := PyProof.Rows.split_le z ⟨#[32]⟩
      rw [hsp, List.length_cons] at this
      have := hp.len
      omega
    rw [hsp]
    have s1 := Same.new (o := .lst ((w0 :: r).map V.str)) f0
    have h0 : upd H lw0 (.lst ((w0 :: r).map V.str)) lw0 = some (.lst ((w0 :: r).map V.str)) := upd_same
    generalize upd H lw0 (.lst ((w0 :: r).map V.str)) = H1 at *
    refine ⟨_, rfl, lw0, _, _, V.str w0, rfl, rfl, SqL.of h0, atI_nat (j := 0) rfl, w0, rfl, plW w0 (by simp), fun m h1 h8 e0 => ?_, fun no => q2 (fun m ws ok => ?_) _ s1⟩
    rotate_left
    · have := ok.sp
      rw [hsp] at this
      exact no m ok.m1 ok.m8 (List.cons.inj this).1
    subst e0
    refine ⟨_, rfl, lw0, _, rfl, .inl (SqL.of h0), _, _, rfl, rfl, _, _, rfl, rfl, _, rfl, ?_⟩
    rw [List.length_map, List.length_cons]
    refine ite2 (fun e => ?_) (fun e => ?_)
    · refine ⟨12, rfl, by decide, fun _ => q2 (fun m' ws ok => ?_) _ s1⟩
      have e1 := ok.sp
      rw [hsp] at e1
      have e2 := congrArg List.length (List.cons.inj e1).2
      rw [List.length_map] at e2
      have := ok.few
      have := of_decide_eq_true e
      omega
    have few : r.length ≤ 12 := by
      have : ¬ ((12 : Int) < ((r.length + 1 : Nat) : Int) - 1) := fun z => e (decide_eq_true z)
      omega
    refine ⟨_, rfl, _, rfl, _, rfl, lw0, _, rfl, SqL.of h0, fun lc fc => ⟨lc, rfl, ⟨_, SqL.of upd_same⟩, fun l3 f3 => ?_⟩⟩
    have ec : cutV ((Sh.hd m :: r).map V.str) (some 1) none = r.map V.str := by
      rw [show (1 : Int) = ((1 : Nat) : Int) from rfl, cut_drop]
      rfl
    rw [ec]
    rw [ec] at f3
    have s2 := s1.trans (Same.new (o := .lst (r.map V.str)) fc)
    have hc : upd H1 lc (.lst (r.map V.str)) lc = some (.lst (r.map V.str)) := upd_same
    generalize upd H1 lc (.lst (r.map V.str)) = H2 at *
    have fr3 := s2.free f3
    refine c_list (K := K) (a := lc) (xs := r.map V.str) (fun i ys σ H' => ∃ u as ws, σ = [u, some (.int m)] ∧ Same H2 H' ∧ ys = as.map V.ref ∧ Own H H' l3 as ws ∧ r.take i = ws.map Sh.word ∧ ∀ w ∈ ws, Sh.Ris m w)
      ⟨none, [], [], rfl, Same.new f3, rfl, ⟨upd_same, fr3, by simp, .nil⟩, rfl, fun _ h => absurd h (by simp)⟩ (fun i ys σ H' _ ⟨_, _, _, _, z, _⟩ => SqL.of (z _ _ hc)) ?_ ?_
    · rintro i x ys σ H' hi ⟨u, as, ws, rfl, s3, rfl, O, ht, hw⟩
      rw [List.getElem?_map] at hi
      cases e : r[i]? with
      | none => rw [e] at hi; cases hi
      | some y =>
        rw [e] at hi
        obtain rfl : V.str y = x := Option.some.inj hi
        refine ⟨_, rfl, _, rfl, m, y, rfl, h1, h8, plW y (List.mem_cons_of_mem _ (List.mem_of_getElem? e)), fun w' rw' ew c H3 fc s4 hc4 => ⟨s4 _ _ O.at_, ?_, _, as ++ [c], ws ++ [w'], rfl, (s3.trans s4).put f3, ?_, ?_, ?_, fun v hv => ?_⟩, fun no H3 s4 => q2 (fun m' ws' ok => ?_) _ ((s2.trans s3).trans s4)⟩
        · rw [List.length_map, O.len]
          have e1 := congrArg List.length ht
          rw [List.length_map] at e1
          have := List.length_take_le' i r
          exact small1000 (by omega)
        · rw [List.map_append]
          rfl
        · exact O.snoc s4 fc hc4 ((s2.trans s3).free fc)
        · rw [List.take_add_one, e, Option.toList_some, ht, List.map_append, ew]
          rfl
        · rcases List.mem_append.mp hv with z | z
          · exact hw v z
          · rw [List.mem_singleton.mp z]; exact rw'
        · have e1 := ok.sp
          rw [hsp] at e1
          have e2 := List.cons.inj e1
          have em := Sh.hd_inj e2.1
          have e3 := e
          rw [e2.2, List.getElem?_map] at e3
          cases e4 : ws'[i]? with
          | none => rw [e4] at e3; cases e3
          | some w' =>
            rw [e4] at e3
            have e5 : Sh.word w' = y := Option.some.inj e3
            have := ok.ris w' (List.mem_of_getElem? e4)
            rw [← em] at this
            exact no w' this e5.symm
    · rintro ys σ H' ⟨u, as, ws, rfl, s3, rfl, O, ht, hw⟩
      rw [List.length_map, List.take_length] at ht
      refine ⟨(by show 2 ≤ sizeLine; decide), fun t ft => ?_⟩
      have lw : ws.length = r.length := by rw [ht, List.length_map]
      exact q1 m ws ⟨by rw [hsp, ht], h1, h8, by omega, hw⟩ t l3 as _ ((s2.trans s3).free ft) ((s2.trans s3).trans (Same.new ft)) upd_same (O.same (Same.new ft))

end
end K14
namespace K14
open PySem L2
set_option maxRecDepth 100000
set_option maxHeartbeats 4000000
section
variable {P : Program} {w : World} {K : PySem.W.Frag} {mg : Str → Option Value} {base : Heap}
def spWhole : Sp := fun vs H Q _ => ∃ z : Int, vs = [.int z] ∧ Q (.bl true) H
theorem ok__law_whole (T : Txt K mg) : Cal P w K mg base 1 "_law_whole" ["found"] spWhole := by
  refine T.d__law_whole.ok sc__law_whole (fun vs H Q E h => ?_) (fun f cdv A outer s H vs Q E hr h => ?_)
  · obtain ⟨z, rfl, _⟩ := h
    rfl
  · obtain ⟨z, rfl, q⟩ := h
    refine ⟨_, (pss_one (ps_ret (pe_and (pe_callB (k_isinst (K := K) rfl) rfl T.b_isinstance PyProof.Rows.boot_isinstance (pa_cons (pv 0) (pa_cons (pe_bltn (v := .ty "int") rfl T.b_int PyProof.Rows.boot_int rfl) pa_nil))) (pe_one (pe_not (pe_callB (k_isinst (K := K) rfl) rfl T.b_isinstance PyProof.Rows.boot_isinstance (pa_cons (pv 0) (pa_cons (pe_bltn (v := .ty "bool") rfl T.b_bool PyProof.Rows.boot_bool rfl) pa_nil)))))))), ?_⟩
    refine ⟨_, rfl, _, _, _, _, rfl, .int z, kit_same, _, rfl, iteT ?_⟩
    exact ⟨_, rfl, _, _, _, _, rfl, .int z, kit_int_bool, _, rfl, q⟩


end
end K14
namespace K14
open PySem L2
set_option maxRecDepth 100000
set_option maxHeartbeats 4000000
section
variable {P : Program} {w : World} {K : PySem.W.Frag} {mg : Str → Option Value} {base : Heap}
theorem at_mod {α : Type} {l : List α} {n : Nat} {c : Int} (hn : l.length = n) (h0 : 0 < n) : ∃ x, atI l (c % (n : Int)) = some x ∧ x ∈ l := by
  have z0 : 0 ≤ c % (n : Int) := Int.emod_nonneg _ (by omega)
  have z1 : c % (n : Int) < n := Int.emod_lt_of_pos _ (by omega)
  obtain ⟨k, hk⟩ : ∃ k : Nat, c % (n : Int) = (k : Int) := ⟨(c % (n : Int)).toNat, by omega⟩
  rw [hk]
  have hl : k < l.length := by omega
  exact ⟨l[k], atI_nat (List.getElem?_eq_getElem hl), List.getElem_mem hl⟩
def spSign : Sp := fun vs H Q _ => ∃ cell : Int, vs = [.int cell] ∧ ∀ c : Nat, c < 128 → Q (.str ⟨#[c]⟩) H
theorem ok__law_sign_by (T : Txt K mg) : Cal P w K mg base 1 "_law_sign_by" ["cell"] spSign := by
  refine T.d__law_sign_by.ok sc__law_sign_by (fun vs H Q E h => ?_) (fun f cdv A outer s H vs Q E hr h => ?_)
  · obtain ⟨c, rfl, _⟩ := h
    rfl
  · obtain ⟨cell, rfl, q⟩ := h
    refine ⟨_, (pss_cons (ps_if (pt_cmpR op_eq (pe_op op_mod (pv 0) pe_int) pe_int (nomark _)) (pss_one (ps_ret (pe_ix ix_str pe_str (pe_op op_mod (pe_op op_fdiv (pv 0) pe_int) pe_int) (fun _ _ => rfl)))) pss_nil) (pss_cons (ps_set (i := 1) sc__law_sign_by.nd rfl (Or.inl rfl) pe_str) (pss_cons (ps_set (i := 1) sc__law_sign_by.nd rfl (Or.inl rfl) (pe_op op_add_str (pv 1) pe_str)) (pss_one (ps_ret (pe_ix ix_str (pv 1) (pe_op op_mod (pe_op op_fdiv (pv 0) pe_int) pe_int) (fun _ _ => rfl))))))), ?_⟩
    refine ⟨_, rfl, _, _, rfl, rfl, (by show (0 : Int) < 2; decide), rfl, _, rfl, ?_⟩
    refine ite2 (fun _ => ?_) (fun _ => ?_)
    · obtain ⟨c, hc, hm⟩ := at_mod (l := (Str.ofString "0123456789 :-1 9").cps.toList) (n := 16) (c := cell / 2) (by decide +kernel) (by decide)
      have low : ∀ d ∈ (Str.ofString "0123456789 :-1 9").cps.toList, d < 128 := by decide +kernel
      exact ⟨_, rfl, _, _, rfl, rfl, ⟨by decide, by decide⟩, _, _, rfl, rfl, (by show (0 : Int) < 16; decide), _, _, c, rfl, rfl, by decide +kernel, hc, q c (low c hm)⟩
    · refine ⟨_, rfl, _, _, rfl, rfl, by decide +kernel, ?_⟩
      obtain ⟨zz, hzz⟩ : ∃ zz, (Str.ofString " !\"#$&'()*+,-./0123456789:;<=>?@ABCDEFGHIJKLMNOPQRSTUVWXYZ[\\]^_`" ++ Str.ofString "abcdefghijklmnopqrstuvwxyz{|}~") = zz := ⟨_, rfl⟩
      have l94 : zz.cps.toList.length = 94 := by rw [← hzz]; decide +kernel
      have low : ∀ d ∈ zz.cps.toList, d < 128 := by rw [← hzz]; decide +kernel
      show gName 1 (V.str (Str.ofString " !\"#$&'()*+,-./0123456789:;<=>?@ABCDEFGHIJKLMNOPQRSTUVWXYZ[\\]^_`" ++ Str.ofString "abcdefghijklmnopqrstuvwxyz{|}~")) _ _ _
      rw [hzz]
      obtain ⟨c, hc, hm⟩ := at_mod (l := zz.cps.toList) (n := 94) (c := cell / 2) l94 (by decide)
      have sz : zz.length ≤ sizeLine := line_of (by
        have e : zz.length = zz.cps.toList.length := by simp [Str.length]
        omega)
      exact ⟨_, rfl, _, rfl, _, _, rfl, rfl, ⟨by decide, by decide⟩, _, _, rfl, rfl, (by show (0 : Int) < 94; decide), _, _, c, rfl, rfl, sz, hc, q c (low c hm)⟩

def spOdd : Sp := fun vs H Q _ => ∃ cell : Int, vs = [.int cell] ∧ ∀ (z : Str) H', Sh.Pl 290 z → Same H H' → Q (.str z) H'
def odds : List Str := ["", ":", "3", "3:", "3: ", "3:1", "3 : 1", " 3: 1", "3: 1 ", "3:  1", "3: 21", "3: 11", "3: 4", "3: 0", "3: --", "3: -1", "03: 1", "9: 1", "0:", "12: 1", "3: +1", "3: 1_2", "3: 1-", "8: 12345678"]
theorem odds_pl : ∀ z ∈ odds, z.length ≤ 290 ∧ ∀ c ∈ z.cps.toList, c < 128 := by decide +kernel
theorem odd_body : ∃ (es1 es2 : List Expr) (p1 p2 p3 p4 p5 p6 p7 p8 : Pos), defBody s__law_odd = .Assign [.Name "some" p1] (.List es1 p2) p3 :: .Assign [.Name "some" p4] (.BinOp (.Name "some" p5) .Add (.List es2 p6) p7) p8 :: (defBody s__law_odd).drop 2 ∧
    isLits es1 = true ∧ isLits es2 = true ∧ litsOf es1 ++ litsOf es2 = odds ∧ (litsOf es1).length = 14 ∧ (litsOf es2).length = 10 := ⟨_, _, _, _, _, _, _, _, _, _, rfl, by decide +kernel, by decide +kernel, by decide +kernel, by decide +kernel, by decide +kernel⟩
theorem ok__law_odd (T : Txt K mg) : Cal P w K mg base 1 "_law_odd" ["cell"] spOdd := by
  refine T.d__law_odd.ok sc__law_odd (fun vs H Q E h => ?_) (fun f cdv A outer s H vs Q E hr h => ?_)
  · obtain ⟨c, rfl, _⟩ := h
    rfl
  · obtain ⟨cell, rfl, q⟩ := h
    obtain ⟨es1, es2, p1, p2, p3, p4, p5, p6, p7, p8, hb, hl2, hl1, ho, n1, n2⟩ := odd_body
    rw [hb]
    refine ⟨_, (pss_cons (ps_set (i := 1) sc__law_odd.nd rfl (Or.inl rfl) (pe_lst (pa_lits hl2)) sw_list) (pss_cons (ps_set (i := 1) sc__law_odd.nd rfl (Or.inl rfl) (pe_op op_cat (pv 1) (pe_lst (pa_lits hl1))) sw_bin) (pss_one (ps_ret (pe_ix (k_ixL (K := K) rfl) (pv 1) (pe_op op_mod (pv 0) pe_int) (fun _ _ => rfl)))))), ?_⟩
    refine ⟨(by rw [List.length_map, n1]; decide), fun l1 f1 => ⟨_, rfl, (by rw [List.length_map, n2]; decide), fun l2 f2 => ?_⟩⟩
    have n12 : l1 ≠ l2 := fun e => by rw [← e, upd_same] at f2; cases f2
    refine ⟨l1, l2, _, _, rfl, rfl, by rw [upd_ne n12]; exact upd_same, upd_same, (by rw [List.length_map, List.length_map, n1, n2]; decide), fun l3 f3 => ?_⟩
    have eo : (litsOf es1).map V.str ++ (litsOf es2).map V.str = odds.map V.str := by rw [← List.map_append, ho]
    obtain ⟨v, hat, hm⟩ := at_mod (l := odds.map V.str) (n := 24) (c := cell) (by rw [List.length_map]; decide +kernel) (by decide)
    obtain ⟨z, hz, rfl⟩ := List.mem_map.mp hm
    have hp := odds_pl z hz
    refine ⟨_, rfl, _, rfl, _, _, rfl, rfl, (by show (0 : Int) < 24; decide), l3, _, _, V.str z, rfl, rfl, SqL.of upd_same, by rw [eo]; exact hat, q z _ ⟨hp.1, hp.2⟩ (((Same.new f1).trans (Same.new f2)).trans (Same.new f3))⟩

def spTold : Sp := fun vs H Q _ => ∃ (m : Nat) (x : Str), vs = [.str x, .int m] ∧ m ≤ 8 ∧ Sh.Pl 299 x ∧ (∀ w, Sh.Ris m w → x = Sh.word w → ∀ l H', H l = none → Same H H' → H' l = some (.lst (w.map V.int)) → Q (.ref l) H') ∧
  ((∀ w, Sh.Ris m w → x ≠ Sh.word w) → ∀ H', Same H H' → Q .non H')
theorem ok__law_wish_told (T : Txt K mg) : Cal P w K mg base 1 "_law_wish_told" ["word", "many"] spTold := by
  refine T.d__law_wish_told.ok sc__law_wish_told (fun vs H Q E h => ?_) (fun f cdv A outer s H vs Q E hr h => ?_)
  · obtain ⟨m, x, rfl, _⟩ := h
    rfl
  · obtain ⟨m, x, rfl, h8, hp, q1, q2⟩ := h
    refine ⟨_, (pss_cons (ps_if (pt_cmpR op_eq (pv 0) pe_str (nomark _)) (pss_one (ps_ret (pe_lst pa_nil))) pss_nil) (pss_cons (ps_set (i := 2) sc__law_wish_told.nd rfl (Or.inl rfl) (pe_lst pa_nil)) (pss_cons (ps_for PassesOwn.never rfl (pi_str (pv 0)) (pg_name (i := 3) sc__law_wish_told.nd rfl (Or.inl rfl)) (pss_cons (ps_set (i := 4) sc__law_wish_told.nd rfl (Or.inl rfl) (pe_sm PySem.F.slot_str_find PySem.F.type_str_find mt_find pe_str (pa_cons (pv 3) pa_nil))) (pss_cons (ps_if (PW.pt (pw_or (pt_cmpR op_lt (pv 4) pe_int (nomark _)) (pw_or (pt_cmpR op_ge (pv 4) (pv 1) (nomark _)) (pw_or1 (PW.pt (pw_and (pt_cmpR op_gt (pe_callB (k_len (K := K) rfl) rfl T.b_len PySem.boot_len (pa_cons (pv 2) pa_nil)) pe_int (nomark _)) (pw_and1 (pt_cmpR op_ge (pe_ix (k_ixL (K := K) rfl) (pv 2) (pe_un un_neg pe_int) (fun _ _ => rfl)) (pv 4) (nomark _))))))))) (pss_one (ps_ret pe_non)) pss_nil) (pss_one (ps_expr (pe_bm PySem.F.plainAttrs_list PySem.F.slot_list_append PySem.F.type_list_append mt_append (pv 2) (pa_cons (pv 4) pa_nil))))))) (pss_one (ps_ret (pe_ife (pt_cmpR op_gt (pe_callB (k_len (K := K) rfl) rfl T.b_len PySem.boot_len (pa_cons (pv 2) pa_nil)) pe_int (nomark _)) (pv 2) pe_non)))))), ?_⟩
    refine ⟨_, rfl, rfl, _, rfl, ?_⟩
    rw [e45]
    refine ite2 (fun e => ?_) (fun e => ?_)
    · have ex : x = ⟨#[45]⟩ := V.str.inj (of_decide_eq_true e)
      exact ⟨Nat.zero_le _, fun l fl => q1 [] (Sh.Ris.nil m) ex l _ fl (Same.new fl) upd_same⟩
    have nx : x ≠ ⟨#[45]⟩ := fun z => e (decide_eq_true (by rw [z]))
    refine ⟨Nat.zero_le _, fun lw flw => ?_⟩
    refine ⟨_, rfl, x, rfl, for_str (x := x) (fun i σ H' => ∃ v1 v2 v, σ = [some (.str x), some (.int m), some (.ref lw), v1, v2] ∧ Same H H' ∧ H' lw = some (.lst (v.map V.int)) ∧ Sh.Ris m v ∧ (Sh.figs v).cps.toList = x.cps.toList.take i)
      ⟨none, none, [], rfl, Same.new flw, upd_same, Sh.Ris.nil m, rfl⟩ ?_ ?_⟩
    · rintro i c σ H' hi ⟨v1, v2, v, rfl, s1, hL, hv, hx⟩
      have hiL : x.cps.toList[i]? = some c := by rw [← hi]; simp
      have hc : c < 128 := hp.low c (List.mem_of_getElem? hiL)
      have v8 := hv.len
      -- the sign's place in a wish that the word would be
      have at_ : ∀ w, Sh.Ris m w → x = Sh.word w → ∃ b, w[i]? = some b ∧ c = 49 + b.toNat ∧ v = w.take i := fun w hw ew => by
        obtain ⟨n0, e1⟩ := Sh.dash_ne (w := w) (fun z => nx (ew.trans z))
        have e2 : x.cps.toList = w.map fun b => 49 + b.toNat := by rw [ew, e1, Sh.figs_list]
        rw [e2, List.getElem?_map] at hiL
        cases e3 : w[i]? with
        | none => rw [e3] at hiL; cases hiL
        | some b =>
          rw [e3] at hiL
          refine ⟨b, rfl, (Option.some.inj hiL).symm, Sh.figs_inj (fun b hb => (hv.lt b hb).1) (fun b hb => (hw.lt b (List.mem_of_mem_take hb)).1) (Sh.str_ext ?_)⟩
          rw [hx, e2, Sh.figs_list, List.map_take]
      refine ⟨_, rfl, _, rfl, _, _, rfl, rfl, ?_⟩
      show gName 4 (V.int (PySem.Txt.find (Str.ofString "12345678") ⟨#[c]⟩)) _ _ _
      rw [Sh.find_fig hc]
      refine ⟨_, rfl, _, _, rfl, rfl, _, rfl, ?_⟩
      refine ite2 (fun e1 => ?_) (fun e1 => ?_)
      · refine q2 (fun w hw ew => ?_) H' s1
        obtain ⟨b, hb, ec, _⟩ := at_ w hw ew
        have := hw.lt b (List.mem_of_getElem? hb)
        have := of_decide_eq_true e1
        unfold Sh.figAt at this
        rw [if_pos (by omega)] at this
        omega
      have n1 : ¬ (Sh.figAt c < 0) := fun z => e1 (decide_eq_true z)
      have hf : 49 ≤ c ∧ c ≤ 56 ∧ Sh.figAt c = (c : Int) - 49 := by
        unfold Sh.figAt at n1 ⊢
        split at n1
        · rename_i hh
          rw [if_pos hh]
          exact ⟨hh.1, hh.2, rfl⟩
        · exact absurd (by decide) n1
      obtain ⟨k, hk⟩ : ∃ k : Nat, Sh.figAt c = (k : Int) ∧ c = 49 + k := ⟨c - 49, by omega, by omega⟩
      rw [hk.1]
      refine ⟨_, rfl, _, rfl, _, _, rfl, rfl, _, rfl, ?_⟩
      refine ite2 (fun e2 => ?_) (fun e2 => ?_)
      · refine q2 (fun w hw ew => ?_) H' s1
        obtain ⟨b, hb, ec, _⟩ := at_ w hw ew
        have := hw.lt b (List.mem_of_getElem? hb)
        have := of_decide_eq_true e2
        omega
      have km : (k : Int) < (m : Int) := by
        have : ¬ ((m : Int) ≤ (k : Int)) := fun z => e2 (decide_eq_true z)
        omega
      have more : (∀ y ∈ v, y < (k : Int)) → ∃ v1 v2 v', [some (.str x), some (.int m), some (.ref lw), some (V.str ⟨#[c]⟩), some (V.int (k : Int))] = [some (.str x), some (.int m), some (.ref lw), v1, v2] ∧ Same H (upd H' lw (.lst (v.map V.int ++ [V.int (k : Int)]))) ∧
          upd H' lw (.lst (v.map V.int ++ [V.int (k : Int)])) lw = some (.lst (v'.map V.int)) ∧ Sh.Ris m v' ∧ (Sh.figs v').cps.toList = x.cps.toList.take (i + 1) := fun up => by
        refine ⟨_, _, v ++ [(k : Int)], rfl, s1.put flw, ?_, hv.snoc (by omega) km up, ?_⟩
        · rw [upd_same, List.map_append]
          rfl
        · rw [Sh.figs_list, List.map_append, ← Sh.figs_list, hx, List.take_add_one, hiL, hk.2]
          rfl
      have sm : (v.map V.int).length < sizeLine := by rw [List.length_map]; exact small1000 (by omega)
      refine ⟨_, rfl, lw, _, rfl, .inl (SqL.of hL), _, _, rfl, rfl, _, rfl, ?_⟩
      rw [List.length_map]
      refine ite2 (fun e3 => ?_) (fun e3 => ?_)
      · have l0 : 0 < v.length := by have := of_decide_eq_true e3; omega
        obtain ⟨v', y, rfl⟩ : ∃ v' y, v = v' ++ [y] := ⟨v.dropLast, v.getLast (by intro z; rw [z] at l0; simp at l0), (List.dropLast_concat_getLast _).symm⟩
        refine ⟨_, rfl, 1, rfl, lw, _, _, V.int y, rfl, rfl, SqL.of hL, by rw [List.map_append]; exact atI_last _ _, _, rfl, _, _, rfl, rfl, _, rfl, ?_⟩
        refine ite2 (fun e4 => ?_) (fun e4 => ?_)
        · refine q2 (fun w hw ew => ?_) H' s1
          obtain ⟨b, hb, ec, ev⟩ := at_ w hw ew
          have hy : y ∈ w.take i := by rw [← ev]; simp
          have e5 : w.take i ++ [b] = w.take (i + 1) := by rw [List.take_add_one, hb]; rfl
          have hp2 : (w.take (i + 1)).Pairwise (· < ·) := hw.up.sublist (List.take_sublist _ _)
          rw [← e5] at hp2
          have := (List.pairwise_append.mp hp2).2.2 y hy b (by simp)
          have := of_decide_eq_true e4
          have := hw.lt b (List.mem_of_getElem? hb)
          omega
        · have yk : y < (k : Int) := by
            have : ¬ ((k : Int) ≤ y) := fun z => e4 (decide_eq_true z)
            omega
          refine ⟨_, rfl, .inl ⟨rfl, _, SqL.of hL⟩, _, rfl, lw, _, _, rfl, rfl, hL, sm, more fun z hz => ?_⟩
          rcases List.mem_append.mp hz with z1 | z1
          · have := (List.pairwise_append.mp hv.up).2.2 z z1 y (by simp)
            omega
          · rw [List.mem_singleton.mp z1]; exact yk
      · have v0 : v = [] := List.length_eq_zero_iff.mp (by
          have : ¬ ((0 : Int) < (v.length : Int)) := fun z => e3 (decide_eq_true z)
          omega)
        refine ⟨_, rfl, .inl ⟨rfl, _, SqL.of hL⟩, _, rfl, lw, _, _, rfl, rfl, hL, sm, more fun z hz => ?_⟩
        rw [v0] at hz
        cases hz
    · rintro σ H' ⟨v1, v2, v, rfl, s1, hL, hv, hx⟩
      have hx : Sh.figs v = x := Sh.str_ext (by rw [hx, List.take_of_length_le (by simp)])
      refine ⟨_, rfl, lw, _, rfl, .inl (SqL.of hL), _, _, rfl, rfl, _, rfl, ?_⟩
      rw [List.length_map]
      refine ite2 (fun e3 => ?_) (fun e3 => ?_)
      · have l0 : 0 < v.length := by have := of_decide_eq_true e3; omega
        have nv : v ≠ [] := fun z => by rw [z] at l0; simp at l0
        refine ⟨_, rfl, q1 v hv ?_ lw H' flw s1 hL⟩
        unfold Sh.word
        rw [if_neg nv, hx]
      · have v0 : v.length = 0 := by
          have : ¬ ((0 : Int) < (v.length : Int)) := fun z => e3 (decide_eq_true z)
          omega
        refine q2 (fun w hw ew => ?_) H' s1
        have := Sh.word_pos w
        rw [← ew, ← hx, Sh.figs_len] at this
        omega

def spDue : Sp := fun vs H Q _ => ∃ z : Str, vs = [.str z] ∧ Sh.Pl 299 z ∧ (∀ m ws, Sh.OkT z m ws → ∀ t lw H', H t = none → Same H H' → H' t = some (.tup [.int (m : Nat), .ref lw]) → WL H' lw ws → Q (.ref t) H') ∧ ((∀ m ws, ¬ Sh.OkT z m ws) → ∀ H', Same H H' → Q .non H')
def dO : Option (List Int) → PyData
  | none => .none
  | some w => dI w
def vO (l : Addr) (H : Hp) (o : Option (List Int)) (v : V) : Prop := match o with
  | none => v = .non
  | some w => ∃ b, v = .ref b ∧ b ≠ l ∧ H b = some (.lst (w.map V.int))
theorem lay_O (o : Option (List Int)) : (dO o).canLay0 = true := by
  cases o with
  | none => simp [dO, PyData.canLay0]
  | some w => exact lay_I w
theorem any_O : ∀ os : List (Option (List Int)), ((os.map dO).any fun y => PyData.eqv y PyData.none) = os.any Option.isNone
  | [] => rfl
  | o :: r => by
    rw [List.map_cons, List.any_cons, List.any_cons, any_O r]
    cases o with
    | none => rfl
    | some w => rfl
theorem ok__law_due (T : Txt K mg) : Cal P w K mg base 2 "_law_due" ["text"] spDue := by
  have C__law_wish_told := ok__law_wish_told (P := P) (w := w) (base := base) T
  refine T.d__law_due.ok sc__law_due (fun vs H Q E h => ?_) (fun f cdv A outer s H vs Q E hr h => ?_)
  · obtain ⟨z, rfl, _⟩ := h
    rfl
  · obtain ⟨z, rfl, hp, q1, q2⟩ := h
    have hu66 := room66 hr
    refine ⟨_, (pss_cons (ps_set (i := 1) sc__law_due.nd rfl (Or.inl rfl) (pe_sm PySem.F.slot_str_split PySem.F.type_str_split mt_split (pv 0) (pa_cons pe_str pa_nil))) (pss_cons (ps_set (i := 2) sc__law_due.nd rfl (Or.inr rfl) (pe_op op_add (pe_sm PySem.F.slot_str_find PySem.F.type_str_find mt_find pe_str (pa_cons (pe_slice sl_str (pe_ix (k_ixL (K := K) rfl) (pv 1) pe_int (fun _ _ => rfl)) po_none (po_some pe_int)) pa_nil)) pe_int)) (pss_cons (ps_if (PW.pt (pw_or (pt_cmpR op_ne (pe_callB call_len_str rfl T.b_len PySem.boot_len (pa_cons (pe_ix (k_ixL (K := K) rfl) (pv 1) pe_int (fun _ _ => rfl)) pa_nil)) pe_int (nomark _)) (pw_or (pt_cmpR op_ne (pe_slice sl_str (pe_ix (k_ixL (K := K) rfl) (pv 1) pe_int (fun _ _ => rfl)) (po_some pe_int) po_none) pe_str (nomark _)) (pw_or (pt_cmpR op_lt (pv 2) pe_int (nomark _)) (pw_or1 (pt_cmpR op_gt (pe_callB (k_len (K := K) rfl) rfl T.b_len PySem.boot_len (pa_cons (pv 1) pa_nil)) pe_int (nomark _))))))) (pss_one (ps_ret pe_non)) pss_nil) (pss_cons (ps_comp (i := 3) (own := own__law_due_c0) (cap := cap__law_due_c0) rfl rfl bs__law_due_c0 sc__law_due.nd rfl rfl rfl (k_list (K := K) rfl (pe_slice (k_slL (K := K) rfl) (pv 1) (po_some pe_int) po_none)) (fun _ _ _ _ => (pg_name (i := 0) nd__law_due_c0 rfl (Or.inl rfl) (Or.inr rfl))) (fun _ _ _ _ => pts_nil) (fun _ _ _ _ => (pe_cal C__law_wish_told (hr.mono (by first | decide | omega)) rfl (pa_cons (pv 0) (pa_cons (pv 1) pa_nil))))) (pss_cons (ps_if (pt_cmpR (k_inD (K := K) rfl hu66) pe_non (pv 3) rfl) (pss_one (ps_ret pe_non)) pss_nil) (pss_one (ps_ret (pe_tup (pa_cons (pv 2) (pa_cons (pv 3) pa_nil)))))))))), ?_⟩
    refine ⟨_, rfl, _, rfl, _, _, rfl, rfl, by decide +kernel, line_of (by have := hp.len; omega), fun lw0 f0 => ?_⟩
    rw [e32]
    obtain ⟨w0, r, hsp⟩ : ∃ w0 r, PySem.Txt.split z ⟨#[32]⟩ = w0 :: r := by
      have := PyProof.Rows.split_pos z ⟨#[32]⟩
      cases e : PySem.Txt.split z ⟨#[32]⟩ with
      | nil => rw [e] at this; simp at this
      | cons a l => exact ⟨a, l, rfl⟩
    have plW : ∀ x ∈ w0 :: r, Sh.Pl 299 x := fun x hx => hp.part (by rw [hsp]; exact hx)
    have pl0 := plW w0 (by simp)
    have sz0 := pl_line pl0
    rw [hsp]
    have s1 := Same.new (o := .lst ((w0 :: r).map V.str)) f0
    have h0 : upd H lw0 (.lst ((w0 :: r).map V.str)) lw0 = some (.lst ((w0 :: r).map V.str)) := upd_same
    generalize upd H lw0 (.lst ((w0 :: r).map V.str)) = H1 at *
    have q2' := fun no => q2 no H1 s1
    have ok1 : ∀ m ws, Sh.OkT z m ws → w0 = Sh.hd m ∧ r = ws.map Sh.word := fun m ws ok => by
      have := ok.sp
      rw [hsp] at this
      exact ⟨(List.cons.inj this).1, (List.cons.inj this).2⟩
    refine ⟨_, rfl, _, rfl, lw0, _, _, V.str w0, rfl, rfl, SqL.of h0, atI_nat (j := 0) rfl, _, rfl, _, rfl, sz0, _, _, rfl, rfl, _, _, rfl, rfl, ?_⟩
    refine ⟨_, rfl, lw0, _, _, V.str w0, rfl, rfl, SqL.of h0, atI_nat (j := 0) rfl, _, rfl, sz0, rfl, _, rfl, ?_⟩
    refine ite2 (fun e => ?_) (fun e => ?_)
    · refine q2' fun m ws ok => ?_
      rw [(ok1 m ws ok).1, decide_eq_true (show V.int ((Sh.hd m).length : Int) = V.int 2 from rfl)] at e
      exact absurd e (by decide)
    have l2 : w0.length = 2 := by
      cases c : decide (V.int (w0.length : Int) = V.int 2) with
      | true => have := V.int.inj (of_decide_eq_true c); omega
      | false => rw [c] at e; exact absurd rfl e
    obtain ⟨c, d, rfl⟩ := Sh.two_signs l2
    have hc : c < 128 := pl0.low c (by simp)
    refine ⟨_, rfl, lw0, _, _, V.str ⟨#[c, d]⟩, rfl, rfl, SqL.of h0, atI_nat (j := 0) rfl, _, rfl, _, rfl, sz0, rfl, _, rfl, ?_⟩
    rw [Sh.slice_rest, e58]
    refine ite2 (fun e => ?_) (fun e => ?_)
    · refine q2' fun m ws ok => ?_
      have := congrArg (fun z : Str => z.cps.toList) (ok1 m ws ok).1
      have h2 : d = 58 := (List.cons.inj (List.cons.inj this).2).1
      rw [h2, decide_eq_true rfl] at e
      exact absurd e (by decide)
    have hd58 : d = 58 := by
      cases k : decide (V.str ⟨#[d]⟩ = V.str ⟨#[58]⟩) with
      | true => exact one_str (V.str.inj (of_decide_eq_true k))
      | false => rw [k] at e; exact absurd rfl e
    subst hd58
    rw [Sh.slice_first, Sh.find_fig hc]
    refine ⟨_, rfl, _, _, rfl, rfl, _, rfl, ?_⟩
    refine ite2 (fun e => ?_) (fun e => ?_)
    · refine q2' fun m ws ok => ?_
      have := congrArg (fun z : Str => z.cps.toList) (ok1 m ws ok).1
      have h2 : c = 48 + m := (List.cons.inj this).1
      have := ok.m1
      have := ok.m8
      have := of_decide_eq_true e
      unfold Sh.figAt at this
      rw [if_pos (by omega)] at this
      omega
    obtain ⟨m, hm, h1, h8, hcm⟩ : ∃ m : Nat, Sh.figAt c + 1 = (m : Int) ∧ 1 ≤ m ∧ m ≤ 8 ∧ c = 48 + m := by
      have n1 : ¬ (Sh.figAt c + 1 < 1) := fun z => e (decide_eq_true z)
      unfold Sh.figAt at n1 ⊢
      split at n1
      · rename_i hh
        rw [if_pos hh]
        exact ⟨c - 48, by omega, by omega, by omega, by omega⟩
      · exact absurd (by decide) n1
    show tTest _ [some (V.str z), some (V.ref lw0), some (V.int (Sh.figAt c + 1)), none] _ _
    rw [hm]
    subst hcm
    have em : ∀ m' ws, Sh.OkT z m' ws → m' = m := fun m' ws ok => by
      have := congrArg (fun z : Str => z.cps.toList) (ok1 m' ws ok).1
      have h2 : 48 + m = 48 + m' := (List.cons.inj this).1
      omega
    refine ⟨_, rfl, lw0, _, rfl, .inl (SqL.of h0), _, _, rfl, rfl, _, rfl, ?_⟩
    rw [List.length_map, List.length_cons]
    refine ite2 (fun e => ?_) (fun e => ?_)
    · refine q2' fun m' ws ok => ?_
      have e2 := congrArg List.length (ok1 m' ws ok).2
      rw [List.length_map] at e2
      have := ok.few
      have := of_decide_eq_true e
      omega
    have few : r.length ≤ 12 := by
      have : ¬ ((13 : Int) < ((r.length + 1 : Nat) : Int)) := fun z => e (decide_eq_true z)
      omega
    refine ⟨_, rfl, _, rfl, lw0, _, rfl, SqL.of h0, fun lc fc => ⟨lc, rfl, ⟨_, SqL.of upd_same⟩, fun l3 f3 => ?_⟩⟩
    have ec : cutV (((⟨#[48 + m, 58]⟩ : Str) :: r).map V.str) (some 1) none = r.map V.str := by
      rw [show (1 : Int) = ((1 : Nat) : Int) from rfl, cut_drop]
      rfl
    rw [ec]
    rw [ec] at f3
    have s2 := s1.trans (Same.new (o := .lst (r.map V.str)) fc)
    have hc2 : upd H1 lc (.lst (r.map V.str)) lc = some (.lst (r.map V.str)) := upd_same
    generalize upd H1 lc (.lst (r.map V.str)) = H2 at *
    have em2 : Sh.figAt (48 + m) + 1 = (m : Int) := hm
    show cLoop _ _ _ _ _ [none, some (V.int (Sh.figAt (48 + m) + 1))] _ _
    rw [em2]
    refine c_list (K := K) (a := lc) (xs := r.map V.str) (fun i ys σ H' => ∃ (u : Option V) (os : List (Option (List Int))), σ = [u, some (.int m)] ∧ Same H2 H' ∧ H' l3 = some (.lst ys) ∧ Paired (vO l3 H') os ys ∧ os.length = i ∧ i ≤ r.length ∧ (∀ (j : Nat) w, os[j]? = some (some w) → Sh.Ris m w ∧ r[j]? = some (Sh.word w)) ∧ (∀ j : Nat, os[j]? = some none → ∃ x, r[j]? = some x ∧ ∀ w, Sh.Ris m w → x ≠ Sh.word w))
      ⟨none, [], rfl, Same.new f3, upd_same, .nil, rfl, Nat.zero_le _, fun j w h => by simp at h, fun j h => by simp at h⟩ (fun i ys σ H' _ ⟨_, _, _, z, _⟩ => SqL.of (z _ _ hc2)) ?_ ?_
    · rintro i x ys σ H' hi ⟨u, os, rfl, s3, hL, hP, hlen, _, hs, hn⟩
      rw [List.getElem?_map] at hi
      cases e : r[i]? with
      | none => rw [e] at hi; cases hi
      | some y =>
        rw [e] at hi
        obtain rfl : V.str y = x := Option.some.inj hi
        have hir : i < r.length := (List.getElem?_eq_some_iff.mp e).1
        have lenY : ys.length = i := by rw [← Paired.length hP, hlen]
        have more : ∀ (o : Option (List Int)) (v : V) (H3 : Hp), Same H' H3 → (match o with | none => v = V.non ∧ ∀ w, Sh.Ris m w → y ≠ Sh.word w | some w => (∃ b, v = V.ref b ∧ H' b = none ∧ H3 b = some (.lst (w.map V.int))) ∧ Sh.Ris m w ∧ y = Sh.word w) →
            H3 l3 = some (.lst ys) ∧ ys.length < sizeLine ∧ ∃ (u : Option V) (os' : List (Option (List Int))), [some (V.str y), some (V.int (m : Int))] = [u, some (.int m)] ∧ Same H2 (upd H3 l3 (.lst (ys ++ [v]))) ∧ upd H3 l3 (.lst (ys ++ [v])) l3 = some (.lst (ys ++ [v])) ∧ Paired (vO l3 (upd H3 l3 (.lst (ys ++ [v])))) os' (ys ++ [v]) ∧
              os'.length = i + 1 ∧ i + 1 ≤ r.length ∧ (∀ (j : Nat) w, os'[j]? = some (some w) → Sh.Ris m w ∧ r[j]? = some (Sh.word w)) ∧ (∀ j : Nat, os'[j]? = some none → ∃ x, r[j]? = some x ∧ ∀ w, Sh.Ris m w → x ≠ Sh.word w) := fun o v H3 s4 ho => by
          refine ⟨s4 _ _ hL, small1000 (by omega), _, os ++ [o], rfl, (s3.trans s4).put f3, upd_same, Paired.snoc (Paired.mapP hP fun o' v' h => ?_) ?_, by rw [List.length_append, hlen]; rfl, hir, fun j w hj => ?_, fun j hj => ?_⟩
          · cases o' with
            | none => exact h
            | some w' =>
              obtain ⟨b, e1, e2, e3⟩ := h
              exact ⟨b, e1, e2, by rw [upd_ne e2]; exact s4 _ _ e3⟩
          · cases o with
            | none => exact ho.1
            | some w' =>
              obtain ⟨⟨b, e1, e2, e3⟩, _⟩ := ho
              have nb : b ≠ l3 := fun z => by rw [z, hL] at e2; cases e2
              exact ⟨b, e1, nb, by rw [upd_ne nb]; exact e3⟩
          · by_cases hj2 : j < os.length
            · rw [List.getElem?_append_left hj2] at hj
              exact hs j w hj
            · have : j = i := by
                have := (List.getElem?_eq_some_iff.mp hj).1
                rw [List.length_append, List.length_singleton] at this
                omega
              subst this
              rw [List.getElem?_append_right (by omega), hlen, Nat.sub_self] at hj
              obtain rfl : o = some w := by simpa using hj
              exact ⟨ho.2.1, by rw [e, ho.2.2]⟩
          · by_cases hj2 : j < os.length
            · rw [List.getElem?_append_left hj2] at hj
              exact hn j hj
            · have : j = i := by
                have := (List.getElem?_eq_some_iff.mp hj).1
                rw [List.length_append, List.length_singleton] at this
                omega
              subst this
              rw [List.getElem?_append_right (by omega), hlen, Nat.sub_self] at hj
              obtain rfl : o = none := by simpa using hj
              exact ⟨y, e, ho.2⟩
        exact ⟨_, rfl, _, rfl, m, y, rfl, h8, plW y (List.mem_cons_of_mem _ (List.mem_of_getElem? e)), fun w hw ew b H3 fb s4 hb => more (some w) _ H3 s4 ⟨⟨b, rfl, fb, hb⟩, hw, ew⟩, fun no H3 s4 => more none _ H3 s4 ⟨rfl, no⟩⟩
    · rintro ys σ H' ⟨u, os, rfl, s3, hL, hP, hlen, _, hs, hn⟩
      rw [List.length_map] at hlen
      have s13 := s2.trans s3
      refine ⟨_, rfl, PyData.none, os.map dO, by unfold Dt; rfl, ?_, shaped_of (n := 0) (by simp [PyData.canLay0]) (by simp [PyData.depth]) (by decide), layAll_map lay_O os, _, rfl, ?_⟩
      · unfold Dt
        refine ⟨l3, ys, rfl, SqL.of hL, dtAll_map (F := fun o v => vO l3 H' o v) (fun o v h => ?_) hP⟩
        cases o with
        | none => rw [show v = V.non from h]; show Dt K H' PyData.none _; unfold Dt; rfl
        | some w =>
          obtain ⟨b, rfl, _, hb⟩ := h
          exact dt_I (SqL.of hb)
      show if ((os.map dO).any fun y => PyData.eqv y PyData.none) = true then _ else _
      rw [any_O]
      refine ite2 (fun e => ?_) (fun e => ?_)
      · refine q2 (fun m' ws ok => ?_) H' s13
        obtain ⟨o, ho, hno⟩ := List.any_eq_true.mp e
        cases o with
        | some w => cases hno
        | none =>
          obtain ⟨j, hj⟩ := List.getElem?_of_mem ho
          obtain ⟨x, hx, hbad⟩ := hn j hj
          rw [(ok1 m' ws ok).2, List.getElem?_map] at hx
          cases e2 : ws[j]? with
          | none => rw [e2] at hx; cases hx
          | some w =>
            rw [e2] at hx
            have := ok.ris w (List.mem_of_getElem? e2)
            rw [em m' ws ok] at this
            exact hbad w this (Option.some.inj hx).symm
      · obtain ⟨ws, hws⟩ : ∃ ws : List (List Int), os = ws.map some := by
          refine ⟨os.filterMap id, ?_⟩
          have : ∀ l : List (Option (List Int)), l.any Option.isNone = false → l = (l.filterMap id).map some := fun l => by
            induction l with
            | nil => intro _; rfl
            | cons o r ih =>
              intro h
              rw [List.any_cons, Bool.or_eq_false_iff] at h
              cases o with
              | none => cases h.1
              | some w => rw [List.filterMap_cons_some (by rfl : id (some w) = some w), List.map_cons, ← ih h.2]
          exact this os (by cases k : os.any Option.isNone with | true => exact absurd k e | false => rfl)
        subst hws
        rw [List.length_map] at hlen
        have hr : r = ws.map Sh.word := List.ext_getElem? fun j => by
          rw [List.getElem?_map]
          cases e2 : ws[j]? with
          | none =>
            rw [List.getElem?_eq_none_iff] at e2
            rw [Option.map_none, List.getElem?_eq_none_iff]
            omega
          | some w => exact (hs j w (by rw [List.getElem?_map, e2]; rfl)).2
        have ok : Sh.OkT z m ws := ⟨by rw [hsp, hr]; rfl, h1, h8, by omega, fun w hw => by
          obtain ⟨j, hj⟩ := List.getElem?_of_mem hw
          exact (hs j w (by rw [List.getElem?_map, hj]; rfl)).1⟩
        refine ⟨_, rfl, _, rfl, (by show 2 ≤ sizeLine; decide), fun t ft => ?_⟩
        refine q1 m ws ok t l3 _ (s13.free ft) (s13.trans (Same.new ft)) (by rw [upd_same]; show some (HO.tup [V.int (Sh.figAt (48 + m) + 1), V.ref l3]) = _; rw [em2]) ?_
        have : ∀ {ws : List (List Int)} {ys : List V}, Paired (vO l3 H') (ws.map some) ys → ∃ as : List Addr, ys = as.map V.ref ∧ Paired (fun b w => H' b = some (.lst (w.map V.int))) as ws := fun {ws} => by
          induction ws with
          | nil => intro ys h; cases h; exact ⟨[], rfl, .nil⟩
          | cons w ws ih =>
            intro ys h
            rw [List.map_cons] at h
            cases h with
            | cons h1 h2 =>
              obtain ⟨b, rfl, _, hb⟩ := h1
              obtain ⟨as, rfl, hq⟩ := ih h2
              exact ⟨b :: as, rfl, .cons hb hq⟩
        obtain ⟨as, rfl, hq⟩ := this hP
        exact ⟨as, (Same.new ft) _ _ hL, Paired.mapP hq fun _ _ e => (Same.new ft) _ _ e⟩

end
end K14
namespace K14
open PySem L2
set_option maxRecDepth 100000
set_option maxHeartbeats 4000000
section
variable {P : Program} {w : World} {K : PySem.W.Frag} {mg : Str → Option Value} {base : Heap}
def told14 : List Bool := [true, true, false, false, false, false, false]
def spLTold : Sp := fun vs H Q _ => ∃ z : Str, vs = [.str z] ∧ Sh.Pl 299 z ∧ (∀ m ws, Sh.OkT z m ws → ∀ t lw as H', H t = none → Same H H' → H' t = some (.tup [.int (m : Nat), .ref lw]) → Own H H' lw as ws → Q (.ref t) H') ∧
  ((∀ m ws, ¬ Sh.OkT z m ws) → ∀ r H', H r = none → Same H H' → H' r = some (.lst (told14.map V.bl)) → Q (.ref r) H')
theorem ok__law_told (T : Txt K mg) : Cal P w K mg base 3 "_law_told" ["text"] spLTold := by
  have C_read := ok_read (P := P) (w := w) (base := base) T
  refine T.d__law_told.ok sc__law_told (fun vs H Q E h => ?_) (fun f cdv A outer s H vs Q E hr h => ?_)
  · obtain ⟨z, rfl, _⟩ := h
    rfl
  · obtain ⟨z, rfl, hp, q1, q2⟩ := h
    refine ⟨_, (pss_cons (ps_set (i := 1) sc__law_told.nd rfl (Or.inl rfl) pe_non) (pss_cons (ps_try (i := 2) rfl rfl sc__law_told.nd rfl rfl rfl (T.errs.g _ (by decide)) (T.errs.ex (i := 0) rfl) (fun pn xe E hx => (pss_one (ps_set (i := 1) sc__law_told.nd rfl (Or.inl rfl) (pe_cal1 hx C_read (hr.mono (by first | decide | omega)) rfl (pa_cons (pv 0) pa_nil))))) (fun pn a oe C hp hc => (pss_cons (ps_set (i := 3) sc__law_told.nd rfl (Or.inl rfl) (pe_lst (pa_cons (pe_callB (k_isExc (K := K) rfl hp hc) rfl T.b_isinstance PyProof.Rows.boot_isinstance (pa_cons (pv 2) (pa_cons (pe_glob (v := .ref (aCls mg "NoBook")) rfl (T.errs.g _ (by decide)) rfl) pa_nil))) (pa_cons (pe_callB (k_isExc (K := K) rfl hp hc) rfl T.b_isinstance PyProof.Rows.boot_isinstance (pa_cons (pv 2) (pa_cons (pe_glob (v := .ref (aCls mg "NoWish")) rfl (T.errs.g _ (by decide)) rfl) pa_nil))) (pa_cons (pe_callB (k_isExc (K := K) rfl hp hc) rfl T.b_isinstance PyProof.Rows.boot_isinstance (pa_cons (pv 2) (pa_cons (pe_glob (v := .ref (aCls mg "NoTurn")) rfl (T.errs.g _ (by decide)) rfl) pa_nil))) (pa_cons (pe_callB (k_isExc (K := K) rfl hp hc) rfl T.b_isinstance PyProof.Rows.boot_isinstance (pa_cons (pv 2) (pa_cons (pe_glob (v := .ref (aCls mg "NoOrder")) rfl (T.errs.g _ (by decide)) rfl) pa_nil))) pa_nil)))))) (pss_one (ps_set (i := 1) sc__law_told.nd rfl (Or.inl rfl) (pe_op op_cat (pe_lst (pa_cons (pe_callB (k_isExc (K := K) rfl hp hc) rfl T.b_isinstance PyProof.Rows.boot_isinstance (pa_cons (pv 2) (pa_cons (pe_glob (v := .ref (aCls mg "BadLine")) rfl (T.errs.g _ (by decide)) rfl) pa_nil))) (pa_cons (pe_callB (k_isExc (K := K) rfl hp hc) rfl T.b_isinstance PyProof.Rows.boot_isinstance (pa_cons (pv 2) (pa_cons (pe_bltn (v := .ty "ValueError") rfl T.b_ValueError PyProof.Rows.Boot.«ValueError» rfl) pa_nil))) (pa_cons (pe_callB (k_isExc (K := K) rfl hp hc) rfl T.b_isinstance PyProof.Rows.boot_isinstance (pa_cons (pv 2) (pa_cons (pe_glob (v := .ref (aCls mg "FullShelf")) rfl (T.errs.g _ (by decide)) rfl) pa_nil))) pa_nil)))) (pv 3))))))) (pss_one (ps_ret (pv 1))))), ?_⟩
    refine ⟨_, rfl, z, rfl, hp, fun m ws ok t lw as H' ft s1 ht O => ?_, fun no H1 s1 => ?_⟩
    · exact ⟨_, rfl, q1 m ws ok t lw as H' ft s1 ht O⟩
    · refine ⟨_, rfl, T.errs.sub (i := 6) rfl, fun a na => ?_⟩
      refine ⟨_, rfl, _, _, rfl, rfl, T.errs.ex (i := 6) rfl, T.errs.kit (i := 6) (j := 1) rfl rfl, _, rfl, _, _, rfl, rfl, T.errs.ex (i := 6) rfl, T.errs.kit (i := 6) (j := 4) rfl rfl, _, rfl, _, _, rfl, rfl, T.errs.ex (i := 6) rfl, T.errs.kit (i := 6) (j := 2) rfl rfl, _, rfl, _, _, rfl, rfl, T.errs.ex (i := 6) rfl, T.errs.kit (i := 6) (j := 3) rfl rfl, by decide, fun t1 f1 => ?_⟩
      refine ⟨_, rfl, _, _, rfl, rfl, T.errs.ex (i := 6) rfl, T.errs.kit (i := 6) (j := 6) rfl rfl, _, rfl, _, _, rfl, rfl, T.errs.ex (i := 6) rfl, T.errs.val (i := 6) rfl, _, rfl, _, _, rfl, rfl, T.errs.ex (i := 6) rfl, T.errs.kit (i := 6) (j := 5) rfl rfl, by decide, fun t2 f2 => ?_⟩
      have n12 : t1 ≠ t2 := fun e => by rw [← e, upd_same] at f2; cases f2
      refine ⟨_, rfl, t2, t1, _, _, rfl, rfl, upd_same, by rw [upd_ne n12, upd_same], by decide, fun t3 f3 => ?_⟩
      have s3 := (s1.trans (Same.new (o := .lst [V.bl false, V.bl false, V.bl false, V.bl false]) f1)).trans (Same.new (o := .lst [V.bl true, V.bl true, V.bl false]) f2)
      exact ⟨_, rfl, q2 no t3 _ (s3.free f3) (s3.trans (Same.new f3)) upd_same⟩

def spSpoil : Sp := fun vs H Q _ => ∃ (z : Str) (c o : Int), vs = [.str z, .int c, .int o] ∧ Sh.Pl 140 z ∧ ∀ z' : Str, Sh.Pl 290 z' → Q (.str z') H
theorem ok__law_spoiled (T : Txt K mg) : Cal P w K mg base 2 "_law_spoiled" ["text", "cell", "other"] spSpoil := by
  have C__law_sign_by := ok__law_sign_by (P := P) (w := w) (base := base) T
  refine T.d__law_spoiled.ok sc__law_spoiled (fun vs H Q E h => ?_) (fun f cdv A outer s H vs Q E hr h => ?_)
  · obtain ⟨z, c, o, rfl, _⟩ := h
    rfl
  · obtain ⟨z, c, o, rfl, hp, q⟩ := h
    refine ⟨_, (pss_cons (ps_set (i := 3) sc__law_spoiled.nd rfl (Or.inl rfl) (pe_op op_mod (pe_op op_fdiv (pv 1) pe_int) (pe_op op_add (pe_callB call_len_str rfl T.b_len PySem.boot_len (pa_cons (pv 0) pa_nil)) pe_int))) (pss_cons (ps_if (pt_cmpR op_eq (pe_op op_mod (pv 1) pe_int) pe_int (nomark _)) (pss_one (ps_ret (pe_op op_add_str (pe_slice sl_str (pv 0) po_none (po_some (pv 3))) (pe_slice sl_str (pv 0) (po_some (pe_op op_add (pv 3) pe_int)) po_none)))) pss_nil) (pss_cons (ps_if (pt_cmpR op_eq (pe_op op_mod (pv 1) pe_int) pe_int (nomark _)) (pss_one (ps_ret (pe_op op_add_str (pe_op op_add_str (pe_slice sl_str (pv 0) po_none (po_some (pv 3))) (pe_cal C__law_sign_by (hr.mono (by first | decide | omega)) rfl (pa_cons (pv 2) pa_nil))) (pe_slice sl_str (pv 0) (po_some (pe_op op_add (pv 3) pe_int)) po_none)))) pss_nil) (pss_one (ps_ret (pe_op op_add_str (pe_op op_add_str (pe_slice sl_str (pv 0) po_none (po_some (pv 3))) (pe_cal C__law_sign_by (hr.mono (by first | decide | omega)) rfl (pa_cons (pv 2) pa_nil))) (pe_slice sl_str (pv 0) (po_some (pv 3)) po_none))))))), ?_⟩
    have sz : z.length ≤ sizeLine := line_of (by have := hp.len; omega)
    have ln : ∀ {n : Nat} {x : Str}, Sh.Pl n x → n < 900 → x.length < 900 := fun h h2 => Nat.lt_of_le_of_lt h.len h2
    refine ⟨_, rfl, _, _, rfl, rfl, ⟨by decide, by decide⟩, _, rfl, _, rfl, sz, _, _, rfl, rfl, _, _, rfl, rfl, (by show (0 : Int) < (z.length : Int) + 1; omega), ?_⟩
    obtain ⟨at_, hat⟩ : ∃ at_, c / 3 % ((z.length : Int) + 1) = at_ := ⟨_, rfl⟩
    show gName 3 (V.int (c / 3 % ((z.length : Int) + 1))) _ _ _
    rw [hat]
    clear hat
    refine ⟨_, rfl, _, _, rfl, rfl, (by show (0 : Int) < 3; decide), rfl, _, rfl, ?_⟩
    refine ite2 (fun _ => ?_) (fun _ => ?_)
    · have p1 := hp.cut none (some at_)
      have p2 := hp.cut (some (at_ + 1)) none
      have l1 := p1.len
      have l2 := p2.len
      exact ⟨_, rfl, _, rfl, _, rfl, _, rfl, sz, _, rfl, _, rfl, _, _, rfl, rfl, _, rfl, _, rfl, sz, _, _, rfl, rfl, line_of (by omega), q _ ((p1.app p2).mono (by omega))⟩
    · refine ⟨_, rfl, _, _, rfl, rfl, (by show (0 : Int) < 3; decide), rfl, _, rfl, ?_⟩
      refine ite2 (fun _ => ?_) (fun _ => ?_)
      · have p1 := hp.cut none (some at_)
        have p2 := hp.cut (some (at_ + 1)) none
        have l1 := p1.len
        have l2 := p2.len
        refine ⟨_, rfl, _, rfl, _, rfl, _, rfl, sz, _, rfl, o, rfl, fun d hd => ?_⟩
        have p3 := p1.app (Sh.pl_one hd)
        have l3 := p3.len
        refine ⟨_, _, rfl, rfl, line_of (by show _ + 1 < 1000; omega), _, rfl, _, rfl, _, _, rfl, rfl, _, rfl, _, rfl, sz, _, _, rfl, rfl, line_of (by omega), q _ ((p3.app p2).mono (by omega))⟩
      · have p1 := hp.cut none (some at_)
        have p2 := hp.cut (some at_) none
        have l1 := p1.len
        have l2 := p2.len
        refine ⟨_, rfl, _, rfl, _, rfl, _, rfl, sz, _, rfl, o, rfl, fun d hd => ?_⟩
        have p3 := p1.app (Sh.pl_one hd)
        have l3 := p3.len
        refine ⟨_, _, rfl, rfl, line_of (by show _ + 1 < 1000; omega), _, rfl, _, rfl, _, rfl, _, rfl, sz, _, _, rfl, rfl, line_of (by omega), q _ ((p3.app p2).mono (by omega))⟩

def dTup (m : Nat) (ws : List (List Int)) : PyData := .tuple [.int m, dII ws]
theorem dt_tup {H : Hp} {t lw : Addr} {m : Nat} {ws : List (List Int)} (ht : H t = some (.tup [.int m, .ref lw])) (hW : WL H lw ws) : Dt K H (dTup m ws) (.ref t) := by
  unfold dTup Dt
  refine ⟨t, _, rfl, SqT.of ht, ?_⟩
  unfold DtAll
  refine ⟨_, _, rfl, (by unfold Dt; rfl), ?_⟩
  unfold DtAll
  refine ⟨_, _, rfl, hW.dt, ?_⟩
  unfold DtAll
  rfl
theorem eqv_tup (m : Nat) (ws : List (List Int)) : PyData.eqv (dTup m ws) (dTup m ws) = true := by
  unfold dTup
  simp only [PyData.eqv, PyData.eqvAll]
  rw [eqv_II, decide_eq_true rfl]
  simp
theorem shaped_tup (m : Nat) (ws : List (List Int)) : SeqAt.shaped (dTup m ws) = true := by
  refine shaped_of (n := 3) ?_ ?_ (by decide)
  · unfold dTup
    simp only [PyData.canLay0, PyData.canLayAll0, lay_II, Bool.and_true]
  · unfold dTup
    have := dep_II ws
    simp only [PyData.depth, PyData.depthAll]
    omega
def spLaw (K : PySem.W.Frag) : Sp := fun vs H Q _ => ∃ (a : Addr) (ns : List Int), vs = [.ref a] ∧ SqL K H a (ns.map V.int) ∧ ns.length ≤ 63 ∧ ∀ H', Q (.bl true) H'
theorem ok_law {f : Addr} {fd : FuncData} (F : Fun K "law" "law" s_law f fd) (T : Txt K mg) : FnOk P w K mg base CX0 5 f fd ["script"] (spLaw K) := by
  have C__law_cell_at := ok__law_cell_at (P := P) (w := w) (base := base) T
  have C__law_set := ok__law_set (P := P) (w := w) (base := base) T
  have C__law_whole := ok__law_whole (P := P) (w := w) (base := base) T
  have C__law_spoiled := ok__law_spoiled (P := P) (w := w) (base := base) T
  have C__law_odd := ok__law_odd (P := P) (w := w) (base := base) T
  have C__law_due := ok__law_due (P := P) (w := w) (base := base) T
  have C__law_told := ok__law_told (P := P) (w := w) (base := base) T
  refine F.ok sc_law (fun vs H Q E h => ?_) (fun cdv A outer s H vs Q E hr h => ?_)
  · obtain ⟨a, ns, rfl, _⟩ := h
    rfl
  · obtain ⟨a, ns, rfl, hS, hlen, q⟩ := h
    have hu64 := room64 hr
    refine ⟨_, (pss_cons (ps_set (i := 1) sc_law.nd rfl (Or.inl rfl) (pe_op op_add pe_int (pe_op op_mod (pe_cal C__law_cell_at (hr.mono (by first | decide | omega)) rfl (pa_cons (pv 0) (pa_cons pe_int pa_nil))) pe_int))) (pss_cons (ps_set (i := 2) sc_law.nd rfl (Or.inl rfl) (pe_op op_add_str (pe_callTy call_str_int rfl T.b_str PyProof.Rows.boot_str (pa_cons (pv 1) pa_nil)) pe_str)) (pss_cons (ps_for PassesOwn.never rfl (pi_range1 rfl T.b_range (pa_cons (pe_op op_mod (pe_cal C__law_cell_at (hr.mono (by first | decide | omega)) rfl (pa_cons (pv 0) (pa_cons pe_int pa_nil))) pe_int) pa_nil)) (pg_name (i := 3) sc_law.nd rfl (Or.inl rfl)) (pss_cons (ps_set (i := 4) sc_law.nd rfl (Or.inl rfl) (pe_sm PySem.F.slot_str_join PySem.F.type_str_join mt_join pe_str (pa_cons (pe_comp (own := own_law_c0) (cap := cap_law_c0) rfl rfl bs_law_c0 (k_list (K := K) rfl (pe_cal C__law_set (hr.mono (by first | decide | omega)) rfl (pa_cons (pe_cal C__law_cell_at (hr.mono (by first | decide | omega)) rfl (pa_cons (pv 0) (pa_cons (pe_op op_add pe_int (pv 3)) pa_nil))) (pa_cons (pv 1) pa_nil)))) (fun _ _ _ _ => (pg_name (i := 0) nd_law_c0 rfl (Or.inl rfl) (Or.inr rfl))) (fun _ _ _ _ => pts_nil) (fun _ _ _ _ => (pe_ix ix_str pe_str (pv 0) (fun _ _ => rfl)))) pa_nil))) (pss_one (ps_set (i := 2) sc_law.nd rfl (Or.inl rfl) (pe_op op_add_str (pe_op op_add_str (pv 2) pe_str) (pe_ife (pt_cmpR op_ne (pv 4) pe_str (nomark _)) (pv 4) pe_str)))))) (pss_cons (ps_by (ps_if (pt_cmpR op_gt (pe_op op_mod (pe_cal C__law_cell_at (hr.mono (by first | decide | omega)) rfl (pa_cons (pv 0) (pa_cons pe_int pa_nil))) pe_int) pe_int (nomark _)) (pss_one (ps_set (i := 2) sc_law.nd rfl (Or.inl rfl) (pe_cal C__law_spoiled (hr.mono (by first | decide | omega)) rfl (pa_cons (pv 2) (pa_cons (pe_cal C__law_cell_at (hr.mono (by first | decide | omega)) rfl (pa_cons (pv 0) (pa_cons pe_int pa_nil))) (pa_cons (pe_cal C__law_cell_at (hr.mono (by first | decide | omega)) rfl (pa_cons (pv 0) (pa_cons pe_int pa_nil))) pa_nil)))))) pss_nil)) (pss_cons (ps_by (ps_if (pt_cmpR op_eq (pe_op op_mod (pe_op op_fdiv (pe_cal C__law_cell_at (hr.mono (by first | decide | omega)) rfl (pa_cons (pv 0) (pa_cons pe_int pa_nil))) pe_int) pe_int) pe_int (nomark _)) (pss_one (ps_set (i := 2) sc_law.nd rfl (Or.inl rfl) (pe_cal C__law_odd (hr.mono (by first | decide | omega)) rfl (pa_cons (pe_cal C__law_cell_at (hr.mono (by first | decide | omega)) rfl (pa_cons (pv 0) (pa_cons pe_int pa_nil))) pa_nil)))) pss_nil)) (pss_cons (ps_set (i := 5) sc_law.nd rfl (Or.inl rfl) (pe_cal C__law_due (hr.mono (by first | decide | omega)) rfl (pa_cons (pv 2) pa_nil))) (pss_cons (ps_set (i := 6) sc_law.nd rfl (Or.inl rfl) (pe_cal C__law_told (hr.mono (by first | decide | omega)) rfl (pa_cons (pv 2) pa_nil))) (pss_cons (ps_if (pt_cmpR op_isN (pv 5) pe_non (nomark _)) (pss_one (ps_ret (pe_cmpR (k_eqD (K := K) rfl hu64) (pv 6) (pe_lst (pa_cons pe_bl (pa_cons pe_bl (pa_cons pe_bl (pa_cons pe_bl (pa_cons pe_bl (pa_cons pe_bl (pa_cons pe_bl pa_nil)))))))) (nomark _)))) pss_nil) (pss_cons (ps_if (PW.pt (pw_or (pt_not (pt_val (pe_callB (k_isinst (K := K) rfl) rfl T.b_isinstance PyProof.Rows.boot_isinstance (pa_cons (pv 6) (pa_cons (pe_bltn (v := .ty "tuple") rfl T.b_tuple PyProof.Rows.boot_tuple rfl) pa_nil))))) (pw_or (pt_cmpR op_ne (pe_callB (k_len (K := K) rfl) rfl T.b_len PySem.boot_len (pa_cons (pv 6) pa_nil)) pe_int (nomark _)) (pw_or (pt_not (pt_val (pe_cal C__law_whole (hr.mono (by first | decide | omega)) rfl (pa_cons (pe_ix (k_ixT (K := K) rfl) (pv 6) pe_int (fun _ _ => rfl)) pa_nil)))) (pw_or1 (pt_cmpR (k_neD (K := K) rfl hu64) (pv 6) (pv 5) (nomark _))))))) (pss_one (ps_ret pe_bl)) pss_nil) (pss_one (ps_ret (pe_callB (k_isinst (K := K) rfl) rfl T.b_isinstance PyProof.Rows.boot_isinstance (pa_cons (pe_ix (k_ixT (K := K) rfl) (pv 6) pe_int (fun _ _ => rfl)) (pa_cons (pe_bltn (v := .ty "list") rfl T.b_list PyProof.Rows.boot_list rfl) pa_nil)))))))))))))), ?_⟩
    refine ⟨_, rfl, a, ns, 0, rfl, hS, by decide, fun z => ⟨_, _, rfl, rfl, (by show (0 : Int) < 8; decide), _, _, rfl, rfl, ?_⟩⟩
    obtain ⟨m, hm, h1, h8⟩ : ∃ m : Nat, 1 + z % 8 = (m : Int) ∧ 1 ≤ m ∧ m ≤ 8 := ⟨(1 + z % 8).toNat, by omega, by omega, by omega⟩
    show gName 1 (V.int (1 + z % 8)) _ _ _
    rw [hm]
    clear hm
    have lg : (m : Int).natAbs.log2 < 1920 := Nat.lt_of_le_of_lt (Nat.log2_le_self _) (by omega)
    have eh := Sh.hd_told h1 h8
    have l2 : (Str.ofString (toString (m : Int))).length + (Str.ofString ":").length = 2 := by rw [← Str.length_append, eh]; rfl
    refine ⟨_, rfl, _, rfl, lg, _, _, rfl, rfl, by rw [l2]; exact line_of (by omega), ?_⟩
    rw [eh]
    have ph : Sh.Pl 2 (Sh.hd m) := ⟨Nat.le_refl 2, fun c hc => by
      unfold Sh.hd at hc
      simp at hc
      omega⟩
    refine ⟨_, rfl, a, ns, 1, rfl, hS, by decide, fun z1 => ⟨_, _, rfl, rfl, (by show (0 : Int) < 14; decide), ?_⟩⟩
    obtain ⟨n, hn, hn13⟩ : ∃ n : Nat, z1 % 14 = (n : Int) ∧ n ≤ 13 := ⟨(z1 % 14).toNat, by omega, by omega⟩
    refine ⟨_, rfl, by omega, by omega, for_range (n := (z1 % 14).toNat) (fun i σ H' => ∃ x v1 v2, σ = [some (.ref a), some (.int m), some (.str x), v1, v2, none, none] ∧ Same H H' ∧ Sh.Pl (2 + 10 * i) x ∧ i ≤ 13) ⟨_, none, none, rfl, Same.refl _, ph, Nat.zero_le _⟩ ?_ ?_⟩
    · rintro i σ H' hi ⟨x, v1, v2, rfl, s1, hx, _⟩
      have hi : i < n := by
        have : i < (z1 % 14).toNat := hi
        omega
      refine ⟨_, rfl, _, rfl, _, rfl, _, _, rfl, rfl, a, ns, _, rfl, s1.seq hS, by omega, fun z2 => ⟨_, rfl, z2, m, rfl, h8, fun b v H2 fb s2 hb gv pv => ⟨b, rfl, ⟨_, SqL.of hb⟩, fun l3 f3 => ?_⟩⟩⟩
      refine c_list (K := K) (a := b) (xs := v.map V.int) (fun i ys σ H3 => ∃ u, σ = [u] ∧ Same H2 H3 ∧ H3 l3 = some (.lst ys) ∧ ys = ((v.take i).map fun b => Sh.figs [b]).map V.str) ⟨none, rfl, Same.new f3, upd_same, rfl⟩ (fun i ys σ H3 _ ⟨_, _, z, _⟩ => SqL.of (z _ _ hb)) ?_ ?_
      · rintro i y ys σ H3 hi ⟨u, rfl, s4, hL, rfl⟩
        rw [List.getElem?_map] at hi
        cases e : v[i]? with
        | none => rw [e] at hi; cases hi
        | some z =>
          rw [e] at hi
          obtain rfl : V.int z = y := Option.some.inj hi
          have hz := gv.1 z (List.mem_of_getElem? e)
          have hat : atI (Str.ofString "12345678").cps.toList z = some (49 + z.toNat) := by
            have := atI_nat (Sh.fig_at hz.1 (by omega))
            rwa [show ((z.toNat : Nat) : Int) = z by omega] at this
          refine ⟨_, rfl, _, _, 49 + z.toNat, rfl, rfl, fig8, hat, hL, ?_, _, rfl, s4.put f3, upd_same, ?_⟩
          · rw [List.length_map, List.length_map]
            exact small1000 (by have := List.length_take_le' i v; have := gv.2; omega)
          · rw [List.take_add_one, e, Option.toList_some, List.map_append, List.map_append]
            rfl
      · rintro ys σ H3 ⟨u, rfl, s4, hL, rfl⟩
        rw [List.length_map, List.take_length] at hL
        have rv : Sh.Ris m v := ⟨gv.1, pv⟩
        have v8 := rv.len
        refine ⟨_, l3, _, rfl, rfl, hL, by decide +kernel, ?_, ?_⟩
        · have : ∀ v : List Int, ((v.map fun b => Sh.figs [b]).map (·.length)).sum = v.length := fun v => by
            rw [List.map_map]
            induction v with
            | nil => rfl
            | cons a r ih => rw [List.map_cons, List.sum_cons, ih, List.length_cons]; show 1 + _ = _; omega
          rw [this, List.length_map]
          omega
        rw [Sh.join_figs (by decide +kernel)]
        have xl := hx.len
        have p1 := hx.app (Sh.pl_one (c := 32) (by decide))
        have e1 : (x ++ Str.ofString " ").length = x.length + 1 := by rw [Str.length_append]; rfl
        refine ⟨_, rfl, _, _, rfl, rfl, line_of (by show _ + 1 < 1000; omega), _, rfl, rfl, _, rfl, ?_⟩
        refine ite2 (fun _ => ?_) (fun _ => ?_)
        · have p2 : Sh.Pl 8 (Sh.figs v) := (Sh.Pl.figs fun b hb => by have := rv.lt b hb; omega).mono (by omega)
          refine ⟨_, rfl, _, _, rfl, rfl, line_of (by rw [e1]; have := p2.len; omega), _, _, _, rfl, (s1.trans s2).trans s4, ?_, by omega⟩
          rw [e32]
          exact (p1.app p2).mono (by omega)
        · have p2 : Sh.Pl 1 (Str.ofString "-") := by rw [e45]; exact Sh.pl_one (by decide)
          refine ⟨_, _, rfl, rfl, line_of (by rw [e1]; have := p2.len; omega), _, _, _, rfl, (s1.trans s2).trans s4, ?_, by omega⟩
          rw [e32]
          exact (p1.app p2).mono (by omega)
    · rintro σ H1 ⟨x, v1, v2, rfl, s1, hx, hi13⟩
      have px : Sh.Pl 140 x := hx.mono (by omega)
      have hS1 := s1.seq hS
      refine ⟨fun σ H' => ∃ x, σ = [some (.ref a), some (.int m), some (.str x), v1, v2, none, none] ∧ H' = H1 ∧ Sh.Pl 290 x, ?_, ?_⟩
      · refine ⟨_, rfl, a, ns, 2, rfl, hS1, by decide, fun z2 => ⟨_, _, rfl, rfl, (by show (0 : Int) < 4; decide), _, _, rfl, rfl, _, rfl, ?_⟩⟩
        refine ite2 (fun _ => ?_) (fun _ => ?_)
        · refine ⟨_, rfl, _, rfl, a, ns, 3, rfl, hS1, by decide, fun z3 => ⟨_, rfl, a, ns, 4, rfl, hS1, by decide, fun z4 => ⟨x, z3, z4, rfl, px, fun x' px' => ⟨x', rfl, rfl, px'⟩⟩⟩⟩
        · exact ⟨x, rfl, rfl, px.mono (by decide)⟩
      rintro σ H' ⟨x, rfl, rfl, px⟩
      refine ⟨fun σ H2 => ∃ x, σ = [some (.ref a), some (.int m), some (.str x), v1, v2, none, none] ∧ Same H' H2 ∧ Sh.Pl 299 x, ?_, ?_⟩
      · refine ⟨_, rfl, a, ns, 2, rfl, hS1, by decide, fun z2 => ⟨_, _, rfl, rfl, ⟨by decide, by decide⟩, _, _, rfl, rfl, (by show (0 : Int) < 8; decide), rfl, _, rfl, ?_⟩⟩
        refine ite2 (fun _ => ?_) (fun _ => ?_)
        · exact ⟨_, rfl, a, ns, 5, rfl, hS1, by decide, fun z5 => ⟨z5, rfl, fun x' H2 px' s2 => ⟨x', rfl, s2, px'.mono (by decide)⟩⟩⟩
        · exact ⟨x, rfl, Same.refl _, px.mono (by decide)⟩
      rintro σ H2 ⟨x, rfl, s2, px⟩
      by_cases hok : ∃ m' ws, Sh.OkT x m' ws
      · obtain ⟨m', ws, ok⟩ := hok
        have uniq : ∀ m2 ws2, Sh.OkT x m2 ws2 → m2 = m' ∧ ws2 = ws := fun m2 ws2 ok2 => by
          have e := ok2.sp.symm.trans ok.sp
          have e1 := List.cons.inj e
          have em := Sh.hd_inj e1.1
          refine ⟨em, ?_⟩
          have key : ∀ (l1 l2 : List (List Int)), (∀ w ∈ l1, Sh.Ris m2 w) → (∀ w ∈ l2, Sh.Ris m' w) → l1.map Sh.word = l2.map Sh.word → l1 = l2 := fun l1 => by
            induction l1 with
            | nil =>
              intro l2 _ _ e
              cases l2 with
              | nil => rfl
              | cons b l2 => cases e
            | cons a l1 ih =>
              intro l2 h1 h2 e
              cases l2 with
              | nil => cases e
              | cons b l2 =>
                rw [List.map_cons, List.map_cons] at e
                have e2 := List.cons.inj e
                rw [Sh.word_inj (h1 a (by simp)) (h2 b (by simp)) e2.1, ih l2 (fun w hw => h1 w (List.mem_cons_of_mem _ hw)) (fun w hw => h2 w (List.mem_cons_of_mem _ hw)) e2.2]
          exact key ws2 ws ok2.ris ok.ris e1.2
        refine ⟨_, rfl, x, rfl, px, fun m2 ws2 ok2 t lw H3 ft s3 ht hW => ?_, fun no => absurd ok (no m' ws)⟩
        obtain ⟨rfl, rfl⟩ := uniq m2 ws2 ok2
        refine ⟨_, rfl, x, rfl, px, fun m3 ws3 ok3 t2 lw2 as2 H4 ft2 s4 ht2 O => ?_, fun no => absurd ok (no m2 ws2)⟩
        obtain ⟨rfl, rfl⟩ := uniq m3 ws3 ok3
        refine ⟨_, rfl, rfl, _, rfl, iteF ?_⟩
        refine ⟨_, rfl, _, _, _, _, rfl, .tup ht2, kit_same, _, rfl, iteF ?_⟩
        refine ⟨_, rfl, t2, _, rfl, .inr (SqT.of ht2), rfl, _, rfl, iteNS rfl ?_⟩
        refine ⟨_, rfl, t2, _, _, _, rfl, rfl, SqT.of ht2, rfl, (m3 : Int), rfl, _, rfl, iteF ?_⟩
        refine ⟨_, rfl, _, rfl, dTup m3 ws3, dTup m3 ws3, dt_tup ht2 O.wl, dt_tup (s4 _ _ ht) (hW.same s4), shaped_tup _ _, shaped_tup _ _, _, rfl, ?_⟩
        show if (!PyData.eqv _ _) = true then _ else _
        rw [eqv_tup]
        refine iteF ?_
        exact ⟨_, rfl, t2, _, _, _, rfl, rfl, SqT.of ht2, rfl, _, _, _, _, rfl, .lst O.at_, kit_same, q H4⟩
      · have no : ∀ m' ws, ¬ Sh.OkT x m' ws := fun m' ws ok => hok ⟨m', ws, ok⟩
        refine ⟨_, rfl, x, rfl, px, fun m2 ws2 ok2 => absurd ok2 (no m2 ws2), fun _ H3 s3 => ?_⟩
        refine ⟨_, rfl, x, rfl, px, fun m2 ws2 ok2 => absurd ok2 (no m2 ws2), fun _ r H4 fr s4 hr4 => ?_⟩
        refine ⟨_, rfl, rfl, _, rfl, iteT ?_⟩
        refine ⟨_, rfl, by decide, fun l5 f5 => ⟨dB told14, dB told14, dt_B (SqL.of ((Same.new f5) _ _ hr4)), dt_B (SqL.of upd_same), shaped_B _, shaped_B _, ?_⟩⟩
        rw [if_neg (by decide), eqv_B, decide_eq_true rfl]
        exact q _

end
end K14
namespace K14
open PySem L2
set_option maxRecDepth 100000
set_option maxHeartbeats 0 in
theorem all_mk {l : PySem.W.OpenLaw} {w : World} {K : PySem.W.Frag} {h : Heap} {mg : Str → Option Value} {fa : Addr} (X : K.In h) (G : h.Ns mainGlobals mg) (hfa : mg "law" = some (.ref fa))
    {f0 : Addr} {od0 an0 : Option Addr} {sl0 : Array (Option Value)} {oc0 kV0 dc0 pm0 cd0 ct0 : Value}
    {f1 : Addr} {od1 an1 : Option Addr} {sl1 : Array (Option Value)} {oc1 kV1 dc1 pm1 cd1 ct1 : Value}
    {f2 : Addr} {od2 an2 : Option Addr} {sl2 : Array (Option Value)} {oc2 kV2 dc2 pm2 cd2 ct2 : Value}
    {f3 : Addr} {od3 an3 : Option Addr} {sl3 : Array (Option Value)} {oc3 kV3 dc3 pm3 cd3 ct3 : Value}
    {f4 : Addr} {od4 an4 : Option Addr} {sl4 : Array (Option Value)} {oc4 kV4 dc4 pm4 cd4 ct4 : Value}
    {f5 : Addr} {od5 an5 : Option Addr} {sl5 : Array (Option Value)} {oc5 kV5 dc5 pm5 cd5 ct5 : Value}
    {f6 : Addr} {od6 an6 : Option Addr} {sl6 : Array (Option Value)} {oc6 kV6 dc6 pm6 cd6 ct6 : Value}
    {f7 : Addr} {od7 an7 : Option Addr} {sl7 : Array (Option Value)} {oc7 kV7 dc7 pm7 cd7 ct7 : Value}
    {f8 : Addr} {od8 an8 : Option Addr} {sl8 : Array (Option Value)} {oc8 kV8 dc8 pm8 cd8 ct8 : Value}
    {f9 : Addr} {od9 an9 : Option Addr} {sl9 : Array (Option Value)} {oc9 kV9 dc9 pm9 cd9 ct9 : Value}
    {f10 : Addr} {od10 an10 : Option Addr} {sl10 : Array (Option Value)} {oc10 kV10 dc10 pm10 cd10 ct10 : Value}
    {f11 : Addr} {od11 an11 : Option Addr} {sl11 : Array (Option Value)} {oc11 kV11 dc11 pm11 cd11 ct11 : Value}
    {f12 : Addr} {od12 an12 : Option Addr} {sl12 : Array (Option Value)} {oc12 kV12 dc12 pm12 cd12 ct12 : Value}
    {e0 e1 e2 e3 e4 e5 e6 : Addr}
    {tk0 : Tok}
    {tk1 : Tok}
    {tk2 : Tok}
    (a0 : PySem.W.nsIn K mainGlobals "_law_cell_at" = some (some (.ref f0)))
    (l0 : K.lookup f0 = some ⟨oc0, od0, .func (PySem.W.fnOf "_law_cell_at" "_law_cell_at" (defArgs s__law_cell_at) (defBody s__law_cell_at) (defScope s__law_cell_at) .none kV0 dc0 pm0 an0 cd0 ct0), sl0⟩) (c0 : PySem.W.codeIn K cd0 "_law_cell_at" = true) (k0 : PySem.W.keepIn K (.ref f0) = true)
    (a1 : PySem.W.nsIn K mainGlobals "_law_set" = some (some (.ref f1)))
    (l1 : K.lookup f1 = some ⟨oc1, od1, .func (PySem.W.fnOf "_law_set" "_law_set" (defArgs s__law_set) (defBody s__law_set) (defScope s__law_set) .none kV1 dc1 pm1 an1 cd1 ct1), sl1⟩) (c1 : PySem.W.codeIn K cd1 "_law_set" = true) (k1 : PySem.W.keepIn K (.ref f1) = true)
    (a2 : PySem.W.nsIn K mainGlobals "read_many" = some (some (.ref f2)))
    (l2 : K.lookup f2 = some ⟨oc2, od2, .func (PySem.W.fnOf "read_many" "read_many" (defArgs s_read_many) (defBody s_read_many) (defScope s_read_many) .none kV2 dc2 pm2 an2 cd2 ct2), sl2⟩) (c2 : PySem.W.codeIn K cd2 "read_many" = true) (k2 : PySem.W.keepIn K (.ref f2) = true)
    (a3 : PySem.W.nsIn K mainGlobals "read_wish" = some (some (.ref f3)))
    (l3 : K.lookup f3 = some ⟨oc3, od3, .func (PySem.W.fnOf "read_wish" "read_wish" (defArgs s_read_wish) (defBody s_read_wish) (defScope s_read_wish) .none kV3 dc3 pm3 an3 cd3 ct3), sl3⟩) (c3 : PySem.W.codeIn K cd3 "read_wish" = true) (k3 : PySem.W.keepIn K (.ref f3) = true)
    (a4 : PySem.W.nsIn K mainGlobals "read" = some (some (.ref f4)))
    (l4 : K.lookup f4 = some ⟨oc4, od4, .func (PySem.W.fnOf "read" "read" (defArgs s_read) (defBody s_read) (defScope s_read) .none kV4 dc4 pm4 an4 cd4 ct4), sl4⟩) (c4 : PySem.W.codeIn K cd4 "read" = true) (k4 : PySem.W.keepIn K (.ref f4) = true)
    (a5 : PySem.W.nsIn K mainGlobals "_law_whole" = some (some (.ref f5)))
    (l5 : K.lookup f5 = some ⟨oc5, od5, .func (PySem.W.fnOf "_law_whole" "_law_whole" (defArgs s__law_whole) (defBody s__law_whole) (defScope s__law_whole) .none kV5 dc5 pm5 an5 cd5 ct5), sl5⟩) (c5 : PySem.W.codeIn K cd5 "_law_whole" = true) (k5 : PySem.W.keepIn K (.ref f5) = true)
    (a6 : PySem.W.nsIn K mainGlobals "_law_sign_by" = some (some (.ref f6)))
    (l6 : K.lookup f6 = some ⟨oc6, od6, .func (PySem.W.fnOf "_law_sign_by" "_law_sign_by" (defArgs s__law_sign_by) (defBody s__law_sign_by) (defScope s__law_sign_by) .none kV6 dc6 pm6 an6 cd6 ct6), sl6⟩) (c6 : PySem.W.codeIn K cd6 "_law_sign_by" = true) (k6 : PySem.W.keepIn K (.ref f6) = true)
    (a7 : PySem.W.nsIn K mainGlobals "_law_odd" = some (some (.ref f7)))
    (l7 : K.lookup f7 = some ⟨oc7, od7, .func (PySem.W.fnOf "_law_odd" "_law_odd" (defArgs s__law_odd) (defBody s__law_odd) (defScope s__law_odd) .none kV7 dc7 pm7 an7 cd7 ct7), sl7⟩) (c7 : PySem.W.codeIn K cd7 "_law_odd" = true) (k7 : PySem.W.keepIn K (.ref f7) = true)
    (a8 : PySem.W.nsIn K mainGlobals "_law_wish_told" = some (some (.ref f8)))
    (l8 : K.lookup f8 = some ⟨oc8, od8, .func (PySem.W.fnOf "_law_wish_told" "_law_wish_told" (defArgs s__law_wish_told) (defBody s__law_wish_told) (defScope s__law_wish_told) .none kV8 dc8 pm8 an8 cd8 ct8), sl8⟩) (c8 : PySem.W.codeIn K cd8 "_law_wish_told" = true) (k8 : PySem.W.keepIn K (.ref f8) = true)
    (a9 : PySem.W.nsIn K mainGlobals "_law_due" = some (some (.ref f9)))
    (l9 : K.lookup f9 = some ⟨oc9, od9, .func (PySem.W.fnOf "_law_due" "_law_due" (defArgs s__law_due) (defBody s__law_due) (defScope s__law_due) .none kV9 dc9 pm9 an9 cd9 ct9), sl9⟩) (c9 : PySem.W.codeIn K cd9 "_law_due" = true) (k9 : PySem.W.keepIn K (.ref f9) = true)
    (a10 : PySem.W.nsIn K mainGlobals "_law_told" = some (some (.ref f10)))
    (l10 : K.lookup f10 = some ⟨oc10, od10, .func (PySem.W.fnOf "_law_told" "_law_told" (defArgs s__law_told) (defBody s__law_told) (defScope s__law_told) .none kV10 dc10 pm10 an10 cd10 ct10), sl10⟩) (c10 : PySem.W.codeIn K cd10 "_law_told" = true) (k10 : PySem.W.keepIn K (.ref f10) = true)
    (a11 : PySem.W.nsIn K mainGlobals "_law_spoiled" = some (some (.ref f11)))
    (l11 : K.lookup f11 = some ⟨oc11, od11, .func (PySem.W.fnOf "_law_spoiled" "_law_spoiled" (defArgs s__law_spoiled) (defBody s__law_spoiled) (defScope s__law_spoiled) .none kV11 dc11 pm11 an11 cd11 ct11), sl11⟩) (c11 : PySem.W.codeIn K cd11 "_law_spoiled" = true) (k11 : PySem.W.keepIn K (.ref f11) = true)
    (a12 : PySem.W.nsIn K mainGlobals "law" = some (some (.ref f12)))
    (l12 : K.lookup f12 = some ⟨oc12, od12, .func (PySem.W.fnOf "law" "law" (defArgs s_law) (defBody s_law) (defScope s_law) .none kV12 dc12 pm12 an12 cd12 ct12), sl12⟩) (c12 : PySem.W.codeIn K cd12 "law" = true) (k12 : PySem.W.keepIn K (.ref f12) = true)
    (aE0 : PySem.W.nsIn K mainGlobals "ShelfError" = some (some (.ref e0)))
    (aE1 : PySem.W.nsIn K mainGlobals "NoBook" = some (some (.ref e1)))
    (aE2 : PySem.W.nsIn K mainGlobals "NoTurn" = some (some (.ref e2)))
    (aE3 : PySem.W.nsIn K mainGlobals "NoOrder" = some (some (.ref e3)))
    (aE4 : PySem.W.nsIn K mainGlobals "NoWish" = some (some (.ref e4)))
    (aE5 : PySem.W.nsIn K mainGlobals "FullShelf" = some (some (.ref e5)))
    (aE6 : PySem.W.nsIn K mainGlobals "BadLine" = some (some (.ref e6)))
    (oE0 : errOk K [e0, e1, e2, e3, e4, e5, e6] 0 = true)
    (oE1 : errOk K [e0, e1, e2, e3, e4, e5, e6] 1 = true)
    (oE2 : errOk K [e0, e1, e2, e3, e4, e5, e6] 2 = true)
    (oE3 : errOk K [e0, e1, e2, e3, e4, e5, e6] 3 = true)
    (oE4 : errOk K [e0, e1, e2, e3, e4, e5, e6] 4 = true)
    (oE5 : errOk K [e0, e1, e2, e3, e4, e5, e6] 5 = true)
    (oE6 : errOk K [e0, e1, e2, e3, e4, e5, e6] 6 = true)
    (cn0 : PySem.W.nsIn K mainGlobals "FIGURES" = some (some (.str "12345678" tk0)))
    (cn1 : PySem.W.nsIn K mainGlobals "NO_BOOKS" = some (some (.str "-" tk1)))
    (cn2 : PySem.W.nsIn K mainGlobals "MOST_WISHES" = some (some (.int 12 tk2)))
    (z0 : PySem.W.nsIn K mainGlobals "len" = some none)
    (z1 : PySem.W.nsIn K mainGlobals "range" = some none)
    (z2 : PySem.W.nsIn K mainGlobals "isinstance" = some none)
    (z3 : PySem.W.nsIn K mainGlobals "bool" = some none)
    (z4 : PySem.W.nsIn K mainGlobals "int" = some none)
    (z5 : PySem.W.nsIn K mainGlobals "ValueError" = some none)
    (z6 : PySem.W.nsIn K mainGlobals "list" = some none)
    (z7 : PySem.W.nsIn K mainGlobals "tuple" = some none)
    (z8 : PySem.W.nsIn K mainGlobals "str" = some none)
    : ∃ fd : FuncData, (∀ (s : Shared) (v : Value), BindsTo s fd ⟨[v], []⟩ [("script", v)]) ∧ ∀ base : Heap, K.In base → base.Ns mainGlobals mg → FnOk l.prog w K mg base CX0 5 fa fd ["script"] (spLaw K) := by
  have e := hfa.symm.trans (PySem.W.mg_of X G a12)
  cases e
  have F0 := fun_mk (st := s__law_cell_at) l0 c0 k0
  have D0 : TDef K mg "_law_cell_at" s__law_cell_at ["script", "k"] := tdef_mk F0 (PySem.W.mg_of X G a0) (F0.binds (ps := ["script", "k"]) fun _ _ _ _ _ _ us hl => match us, hl with | [_, _], _ => rfl)
  have F1 := fun_mk (st := s__law_set) l1 c1 k1
  have D1 : TDef K mg "_law_set" s__law_set ["cell", "many"] := tdef_mk F1 (PySem.W.mg_of X G a1) (F1.binds (ps := ["cell", "many"]) fun _ _ _ _ _ _ us hl => match us, hl with | [_, _], _ => rfl)
  have F2 := fun_mk (st := s_read_many) l2 c2 k2
  have D2 : TDef K mg "read_many" s_read_many ["word"] := tdef_mk F2 (PySem.W.mg_of X G a2) (F2.binds (ps := ["word"]) fun _ _ _ _ _ _ us hl => match us, hl with | [_], _ => rfl)
  have F3 := fun_mk (st := s_read_wish) l3 c3 k3
  have D3 : TDef K mg "read_wish" s_read_wish ["many", "word"] := tdef_mk F3 (PySem.W.mg_of X G a3) (F3.binds (ps := ["many", "word"]) fun _ _ _ _ _ _ us hl => match us, hl with | [_, _], _ => rfl)
  have F4 := fun_mk (st := s_read) l4 c4 k4
  have D4 : TDef K mg "read" s_read ["text"] := tdef_mk F4 (PySem.W.mg_of X G a4) (F4.binds (ps := ["text"]) fun _ _ _ _ _ _ us hl => match us, hl with | [_], _ => rfl)
  have F5 := fun_mk (st := s__law_whole) l5 c5 k5
  have D5 : TDef K mg "_law_whole" s__law_whole ["found"] := tdef_mk F5 (PySem.W.mg_of X G a5) (F5.binds (ps := ["found"]) fun _ _ _ _ _ _ us hl => match us, hl with | [_], _ => rfl)
  have F6 := fun_mk (st := s__law_sign_by) l6 c6 k6
  have D6 : TDef K mg "_law_sign_by" s__law_sign_by ["cell"] := tdef_mk F6 (PySem.W.mg_of X G a6) (F6.binds (ps := ["cell"]) fun _ _ _ _ _ _ us hl => match us, hl with | [_], _ => rfl)
  have F7 := fun_mk (st := s__law_odd) l7 c7 k7
  have D7 : TDef K mg "_law_odd" s__law_odd ["cell"] := tdef_mk F7 (PySem.W.mg_of X G a7) (F7.binds (ps := ["cell"]) fun _ _ _ _ _ _ us hl => match us, hl with | [_], _ => rfl)
  have F8 := fun_mk (st := s__law_wish_told) l8 c8 k8
  have D8 : TDef K mg "_law_wish_told" s__law_wish_told ["word", "many"] := tdef_mk F8 (PySem.W.mg_of X G a8) (F8.binds (ps := ["word", "many"]) fun _ _ _ _ _ _ us hl => match us, hl with | [_, _], _ => rfl)
  have F9 := fun_mk (st := s__law_due) l9 c9 k9
  have D9 : TDef K mg "_law_due" s__law_due ["text"] := tdef_mk F9 (PySem.W.mg_of X G a9) (F9.binds (ps := ["text"]) fun _ _ _ _ _ _ us hl => match us, hl with | [_], _ => rfl)
  have F10 := fun_mk (st := s__law_told) l10 c10 k10
  have D10 : TDef K mg "_law_told" s__law_told ["text"] := tdef_mk F10 (PySem.W.mg_of X G a10) (F10.binds (ps := ["text"]) fun _ _ _ _ _ _ us hl => match us, hl with | [_], _ => rfl)
  have F11 := fun_mk (st := s__law_spoiled) l11 c11 k11
  have D11 : TDef K mg "_law_spoiled" s__law_spoiled ["text", "cell", "other"] := tdef_mk F11 (PySem.W.mg_of X G a11) (F11.binds (ps := ["text", "cell", "other"]) fun _ _ _ _ _ _ us hl => match us, hl with | [_, _, _], _ => rfl)
  have F12 := fun_mk (st := s_law) l12 c12 k12
  have ge0 := PySem.W.mg_of X G aE0
  have ae0 : aCls mg "ShelfError" = e0 := aCls_of ge0
  have ge1 := PySem.W.mg_of X G aE1
  have ae1 : aCls mg "NoBook" = e1 := aCls_of ge1
  have ge2 := PySem.W.mg_of X G aE2
  have ae2 : aCls mg "NoTurn" = e2 := aCls_of ge2
  have ge3 := PySem.W.mg_of X G aE3
  have ae3 : aCls mg "NoOrder" = e3 := aCls_of ge3
  have ge4 := PySem.W.mg_of X G aE4
  have ae4 : aCls mg "NoWish" = e4 := aCls_of ge4
  have ge5 := PySem.W.mg_of X G aE5
  have ae5 : aCls mg "FullShelf" = e5 := aCls_of ge5
  have ge6 := PySem.W.mg_of X G aE6
  have ae6 : aCls mg "BadLine" = e6 := aCls_of ge6
  have em : errNames.map (aCls mg) = [e0, e1, e2, e3, e4, e5, e6] := by simp only [List.map_cons, List.map_nil, ae0, ae1, ae2, ae3, ae4, ae5, ae6]
  have TE : Errs K mg := ⟨fun x hx => by
    simp only [List.mem_cons, List.not_mem_nil, or_false] at hx
    rcases hx with rfl | rfl | rfl | rfl | rfl | rfl | rfl
    · rw [ae0]; exact ge0
    · rw [ae1]; exact ge1
    · rw [ae2]; exact ge2
    · rw [ae3]; exact ge3
    · rw [ae4]; exact ge4
    · rw [ae5]; exact ge5
    · rw [ae6]; exact ge6
    , fun i hi => by
    rw [em]
    match i, hi with
    | 0, _ => exact oE0
    | 1, _ => exact oE1
    | 2, _ => exact oE2
    | 3, _ => exact oE3
    | 4, _ => exact oE4
    | 5, _ => exact oE5
    | 6, _ => exact oE6
    | (n + 7), h => exact absurd h (by omega)⟩
  have T : Txt K mg := ⟨PySem.W.mg_none_of X G z0, PySem.W.mg_none_of X G z1, PySem.W.mg_none_of X G z2, PySem.W.mg_none_of X G z3, PySem.W.mg_none_of X G z4, PySem.W.mg_none_of X G z5, PySem.W.mg_none_of X G z6, PySem.W.mg_none_of X G z7, PySem.W.mg_none_of X G z8, TE, ⟨_, PySem.W.mg_of X G cn0, ⟨_, rfl⟩⟩, ⟨_, PySem.W.mg_of X G cn1, ⟨_, rfl⟩⟩, ⟨_, PySem.W.mg_of X G cn2, ⟨_, rfl⟩⟩, D0, D1, D2, D3, D4, D5, D6, D7, D8, D9, D10, D11⟩
  exact ⟨PySem.W.fnOf "law" "law" (defArgs s_law) (defBody s_law) (defScope s_law) .none kV12 dc12 pm12 an12 cd12 ct12, fun s v => .of_eq rfl, fun base _ _ => ok_law F12 T⟩
theorem walk {l : PySem.W.OpenLaw} {q : Program} {loose : List Str} {XP : (Str → Option Value) → Heap → Prop} {YP : World → Heap → Prop} {d : DefRec} {K : Params → PySem.W.Frag} (hn : l.most = some 63) (hdf : d.params.defaults = [])
    (hY : ∀ (w : World) (h : Heap), YP w h → (K w.params).In h)
    (F : ∀ (w : World) (mg : Str → Option Value) (fa : Addr) (h : Heap), (K w.params).In h → h.Ns mainGlobals mg → mg d.name = some (.ref fa) →
      ∃ fd : FuncData, (∀ (s : Shared) (u : Value), BindsTo s fd ⟨[u], []⟩ [("script", u)]) ∧ ∀ base : Heap, (K w.params).In base → base.Ns mainGlobals mg → FnOk l.prog w (K w.params) mg base CX0 5 fa fd ["script"] (spLaw (K w.params))) :
    PySem.W.WalkO q loose XP YP l.row.toRowW d [] (fun f vs => PySem.call f vs) :=
  L2.walk_of (n := 63) (k := 5) (x := "script") (CX := fun _ => CX0) (sp := fun w => spLaw (K w.params)) hn (by decide) hdf ⟨rfl, by decide, by decide, rfl⟩ hY F (fun _ _ a ns hl _ hS => ⟨a, ns, rfl, hS, hl, fun _ => rfl⟩) fun _ _ _ _ _ z => z
end K14
open PySem PySem.W PyProof.Rows
set_option maxRecDepth 100000 in
set_option maxHeartbeats 0 in
theorem PySem.Challenge.cw_shelfruns_k14_texts_refused_holds : PySem.Challenge.rw_shelfruns_k14_texts_refused.Holds := by
  w_on; o_law; k_head; (case hw => w_witness2)
  k_fill
  refine K14.walk (l := PySem.Challenge.rw_shelfruns_k14_texts_refused) rfl rfl (fun w h Y => PySem.W.kIn_of Y) ?F
  case F =>
    intro w mg fa h KX G hmg
    refine' K14.all_mk KX G hmg ?a0 ?l0 ?c0 ?k0 ?a1 ?l1 ?c1 ?k1 ?a2 ?l2 ?c2 ?k2 ?a3 ?l3 ?c3 ?k3 ?a4 ?l4 ?c4 ?k4 ?a5 ?l5 ?c5 ?k5 ?a6 ?l6 ?c6 ?k6 ?a7 ?l7 ?c7 ?k7 ?a8 ?l8 ?c8 ?k8 ?a9 ?l9 ?c9 ?k9 ?a10 ?l10 ?c10 ?k10 ?a11 ?l11 ?c11 ?k11 ?a12 ?l12 ?c12 ?k12 ?aE0 ?aE1 ?aE2 ?aE3 ?aE4 ?aE5 ?aE6 ?oE0 ?oE1 ?oE2 ?oE3 ?oE4 ?oE5 ?oE6 ?cn0 ?cn1 ?cn2 ?z0 ?z1 ?z2 ?z3 ?z4 ?z5 ?z6 ?z7 ?z8
    (case a0 => k_is)
    (case l0 => k_is)
    (case c0 => k_is)
    (case k0 => k_is)
    (case a1 => k_is)
    (case l1 => k_is)
    (case c1 => k_is)
    (case k1 => k_is)
    (case a2 => k_is)
    (case l2 => k_is)
    (case c2 => k_is)
    (case k2 => k_is)
    (case a3 => k_is)
    (case l3 => k_is)
    (case c3 => k_is)
    (case k3 => k_is)
    (case a4 => k_is)
    (case l4 => k_is)
    (case c4 => k_is)
    (case k4 => k_is)
    (case a5 => k_is)
    (case l5 => k_is)
    (case c5 => k_is)
    (case k5 => k_is)
    (case a6 => k_is)
    (case l6 => k_is)
    (case c6 => k_is)
    (case k6 => k_is)
    (case a7 => k_is)
    (case l7 => k_is)
    (case c7 => k_is)
    (case k7 => k_is)
    (case a8 => k_is)
    (case l8 => k_is)
    (case c8 => k_is)
    (case k8 => k_is)
    (case a9 => k_is)
    (case l9 => k_is)
    (case c9 => k_is)
    (case k9 => k_is)
    (case a10 => k_is)
    (case l10 => k_is)
    (case c10 => k_is)
    (case k10 => k_is)
    (case a11 => k_is)
    (case l11 => k_is)
    (case c11 => k_is)
    (case k11 => k_is)
    (case a12 => k_is)
    (case l12 => k_is)
    (case c12 => k_is)
    (case k12 => k_is)
    (case aE0 => k_is)
    (case aE1 => k_is)
    (case aE2 => k_is)
    (case aE3 => k_is)
    (case aE4 => k_is)
    (case aE5 => k_is)
    (case aE6 => k_is)
    (case oE0 => kernel_rfl)
    (case oE1 => kernel_rfl)
    (case oE2 => kernel_rfl)
    (case oE3 => kernel_rfl)
    (case oE4 => kernel_rfl)
    (case oE5 => kernel_rfl)
    (case oE6 => kernel_rfl)
    (case cn0 => k_is)
    (case cn1 => k_is)
    (case cn2 => k_is)
    (case z0 => k_is); (case z1 => k_is); (case z2 => k_is); (case z3 => k_is); (case z4 => k_is); (case z5 => k_is); (case z6 => k_is); (case z7 => k_is); (case z8 => k_is)

