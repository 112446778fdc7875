import PyProof.Rows.All
import Wide.All
import OpenK.AllK
import Wide.FinOn
import Lean
import PyProof.EqAt
import PyProof.EqKinds
import PyProof.TupleCall
import PySem.Challenge.RW_lockflight_k18_texts_refused
-- CHANGE: your row's module here, as the last of these rows
set_option Elab.async false
set_option linter.all false
set_option maxRecDepth 100000
/-! THE HAND LAYER, for ints, bools, texts, own classes, LISTS and tuples (index, slices, in, append, pop ..), calls, loops. Paste it whole ahead of your own text; what your proof does not reach may be deleted. -/
namespace L2
open PySem PySem.Spec PyProof.Rows

abbrev Key := Sum Int Str
def keyIs : Key → Value → Bool
  | .inl k, v => Value.isInt k v
  | .inr x, v => Value.isStrOf x v
def keyH (w : World) : Key → Int
  | .inl k => hashInt k
  | .inr x => hashStr w x
theorem keyIs_shape : ∀ {k : Key} {v : Value}, keyIs k v = true → (∃ i t, k = Sum.inl i ∧ v = Value.int i t) ∨ (∃ x t, k = Sum.inr x ∧ v = Value.str x t)
  | .inl i, v, h => by
    obtain ⟨t, e⟩ := Value.isInt_shape (k := i) (v := v) h
    exact .inl ⟨i, t, rfl, e⟩
  | .inr x, v, h => by
    obtain ⟨t, e⟩ := Value.isStrOf_shape (x := x) (v := v) h
    exact .inr ⟨x, t, rfl, e⟩
theorem keyIs_int (i : Int) (t : Tok) : keyIs (.inl i) (.int i t) = true := by simp [keyIs, Value.isInt]
theorem keyIs_str (x : Str) (t : Tok) : keyIs (.inr x) (.str x t) = true := by simp [keyIs, Value.isStrOf]
theorem key_ll (a b : Int) : decide ((Sum.inl a : Key) = Sum.inl b) = (a == b) := by
  by_cases e : a = b
  · subst e; simp
  · have h : ¬ (Sum.inl a : Key) = Sum.inl b := fun q => e (Sum.inl.inj q)
    rw [decide_eq_false h]
    exact (beq_eq_false_iff_ne.mpr e).symm
theorem key_rr (a b : Str) : decide ((Sum.inr a : Key) = Sum.inr b) = decide (a = b) := by
  by_cases e : a = b
  · subst e; simp
  · have h : ¬ (Sum.inr a : Key) = Sum.inr b := fun q => e (Sum.inr.inj q)
    rw [decide_eq_false h, decide_eq_false e]
theorem key_lr (a : Int) (b : Str) : decide ((Sum.inl a : Key) = Sum.inr b) = false := decide_eq_false (fun q => nomatch q)
theorem key_rl (a : Str) (b : Int) : decide ((Sum.inr a : Key) = Sum.inl b) = false := decide_eq_false (fun q => nomatch q)

def mixKind (prog : Program) (w : World) : PySem.KeyKind prog w Key where
  is := keyIs
  hash := keyH w
  inj := fun v a b ha hb => by
    rcases keyIs_shape ha with ⟨i, t, rfl, rfl⟩ | ⟨x, t, rfl, rfl⟩
    · rcases keyIs_shape hb with ⟨j, u, rfl, e⟩ | ⟨y, u, rfl, e⟩
      · injection e with e1 _; rw [e1]
      · exact nomatch e
    · rcases keyIs_shape hb with ⟨j, u, rfl, e⟩ | ⟨y, u, rfl, e⟩
      · exact nomatch e
      · injection e with e1 _; rw [e1]
  byValue := fun k v h => by
    rcases keyIs_shape h with ⟨i, t, rfl, rfl⟩ | ⟨x, t, rfl, rfl⟩ <;> rfl
  pyHash := fun hv h => by
    rcases keyIs_shape hv with ⟨i, t, rfl, rfl⟩ | ⟨x, t, rfl, rfl⟩
    · exact wpAny_pyHash_int h
    · exact wpAny_pyHash_str h
  eqBool := fun hu hv h => by
    rcases keyIs_shape hu with ⟨i, t, rfl, rfl⟩ | ⟨x, t, rfl, rfl⟩
    · rcases keyIs_shape hv with ⟨j, u, rfl, rfl⟩ | ⟨y, u, rfl, rfl⟩
      · rw [key_ll] at h; exact wpAny_eqBool_int h
      · rw [key_lr] at h; exact SeqAt.EqAt.int_str i t y u _ _ _ _ h
    · rcases keyIs_shape hv with ⟨j, u, rfl, rfl⟩ | ⟨y, u, rfl, rfl⟩
      · rw [key_rl] at h; exact SeqAt.EqAt.str_int x t j u _ _ _ _ h
      · rw [key_rr] at h; exact wpAny_eqBool_str h
  «strs» := fun k x t v h => by
    rcases keyIs_shape h with ⟨i, u, rfl, e⟩ | ⟨y, u, rfl, e⟩
    · exact nomatch e
    · injection e with e1 _
      subst e1
      cases v <;> rfl

theorem mixKind_int (prog : Program) (w : World) (i : Int) (t : Tok) : (mixKind prog w).is (.inl i) (.int i t) = true := keyIs_int i t
theorem mixKind_str (prog : Program) (w : World) (x : Str) (t : Tok) : (mixKind prog w).is (.inr x) (.str x t) = true := keyIs_str x t
end L2

namespace L2
open PySem PySem.Spec PyProof.Rows

inductive V where
  | non | bl (b : Bool) | int (i : Int) | str (x : Str) | byt (b : Array UInt8) | flt (b : UInt64) | ref (a : Addr) | ty (n : String)
  deriving DecidableEq

def RelV : V → Value → Prop
  | .non, u => u = Value.none
  | .bl b, u => u = Value.bool b
  | .int i, u => ∃ t, u = Value.int i t
  | .str x, u => ∃ t, u = Value.str x t
  | .byt b, u => ∃ t, u = Value.bytes b t
  | .flt b, u => ∃ t, u = Value.float b t
  | .ref a, u => u = Value.ref a
  | .ty n, u => u = Value.type n

abbrev Vals : List V → List Value → Prop := Paired RelV
theorem Vals.length {xs : List V} {us : List Value} (r : Vals xs us) : xs.length = us.length := Paired.length r
theorem Vals.get : ∀ {xs : List V} {us : List Value} {i : Nat} {x : V}, Vals xs us → xs[i]? = some x → ∃ u, us[i]? = some u ∧ RelV x u
  | _, _, _, _, .nil, e => by simp at e
  | _, _, 0, _, .cons r _, e => by simp at e; subst e; exact ⟨_, rfl, r⟩
  | _, _, i + 1, x, .cons _ t, e => by
    obtain ⟨u, h1, h2⟩ := Vals.get (i := i) (x := x) t (by simpa using e)
    exact ⟨u, by simpa using h1, h2⟩
theorem Vals.set {x : V} {u : Value} (r : RelV x u) : ∀ {xs : List V} {us : List Value} (i : Nat), Vals xs us → Vals (xs.set i x) (us.set i u)
  | _, _, _, .nil => .nil
  | _, _, 0, .cons _ t => .cons r t
  | _, _, i + 1, .cons q t => .cons q (Vals.set r i t)
theorem Vals.append : ∀ {xs ys : List V} {us ws : List Value}, Vals xs us → Vals ys ws → Vals (xs ++ ys) (us ++ ws)
  | _, _, _, _, .nil, s => s
  | _, _, _, _, .cons r t, s => .cons r (Vals.append t s)
theorem Vals.take : ∀ {xs : List V} {us : List Value} (n : Nat), Vals xs us → Vals (xs.take n) (us.take n)
  | _, _, 0, _ => .nil
  | _, _, _ + 1, .nil => .nil
  | _, _, n + 1, .cons r t => .cons r (Vals.take n t)
theorem Vals.drop : ∀ {xs : List V} {us : List Value} (n : Nat), Vals xs us → Vals (xs.drop n) (us.drop n)
  | _, _, 0, r => r
  | _, _, _ + 1, .nil => .nil
  | _, _, n + 1, .cons _ t => Vals.drop n t
def RelO : Option V → Option Value → Prop
  | some v, some u => RelV v u
  | none, none => True
  | _, _ => False
def KV {κ : Type} : List (κ × V) → List (κ × Value) → Prop := Paired fun (p : κ × V) (q : κ × Value) => p.1 = q.1 ∧ RelV p.2 q.2

def kV : Key → V
  | .inl i => .int i
  | .inr x => .str x

inductive HO where
  /-- a list -/
  | lst (xs : List V)
  /-- a tuple (never changes) -/
  | tup (xs : List V)
  /-- a dict whose keys are ints and texts; one whose keys are tuples of ints and texts (the empty one is both) -/
  | dK (kvs : List (Key × V)) | dT (kvs : List (List Key × V))
  /-- a set of ints: its members, its size -/
  | set (S : Int → Bool) (n : Nat)
  /-- an instance of the class at C, its dict at dx, its attributes -/
  | ins (C dx : Addr) (fs : List (Str × V))
  /-- the dict of the instance at x -/
  | own (x : Addr)
  /-- the dict of an exception -/
  | xd (fs : List (Str × V))
  /-- a bound method, f of x -/
  | met (f x : Addr)
  /-- a range object lo, lo + 1, .. below hi -/
  | rng (lo hi : Int)
  /-- a thing that is known to the object (the script; a dict while a loop walks it): read, never written while it is so -/
  | frz (o : Obj) (u : HO)
  /-- a code object's table -/
  | tbl (ps : Array Value)
  /-- any other thing, by what is true of its one object (a def of one's own: SetO a S n := HO.ext fun h => ..) -/
  | ext (φ : Heap → Prop)

abbrev Hp := Addr → Option HO
def upd (H : Hp) (a : Addr) (o : HO) : Hp := fun b => if b = a then some o else H b
theorem upd_same {H : Hp} {a : Addr} {o : HO} : upd H a o a = some o := by unfold upd; rw [if_pos rfl]
theorem upd_ne {H : Hp} {a b : Addr} {o : HO} (h : b ≠ a) : upd H a o b = H b := by unfold upd; rw [if_neg h]
theorem ne_of_none {H : Hp} {a b : Addr} {o : HO} (h : H a = some o) (h' : H b = none) : a ≠ b := by
  intro e; subst e; rw [h] at h'; cases h'

section
variable (P : Program) (w : World)
def ObjOk (H : Hp) (h : Heap) (a : Addr) : HO → Prop
  | .lst xs => xs.length ≤ sizeLine ∧ ∃ (its : List Value) (n : Nat), Vals xs its ∧ h.get? a = some { cls := .type "list", data := .seq its.toArray n }
  | .tup xs => xs.length ≤ sizeLine ∧ ∃ its : List Value, Vals xs its ∧ IsTup h a its.toArray
  | .dK kvs => kvs.length ≤ sizeLine ∧ (a == sysModules) = false ∧ ∃ vs, KV kvs vs ∧ h.DictOf (mixKind P w) a vs
  | .dT kvs => kvs.length ≤ sizeLine ∧ (a == sysModules) = false ∧ ∃ xs : List (List Key × Addr × Value),
      Paired (fun (p : List Key × V) (q : List Key × Addr × Value) => p.1 = q.1 ∧ H q.2.1 = some (.tup (p.1.map kV)) ∧ RelV p.2 q.2.2) kvs xs ∧
      ∃ o es ep, h.get? a = some o ∧ o.ExactDict ∧ o.data = .dict es ep ∧ es.toList = xs.map (entryOfKey (tupleKind (mixKind P w))) ∧ (xs.map (·.1)).Nodup
  | .set S n => h.SetOf (intKind P w) a S n
  | .ins C dx fs => H dx = some (.own a) ∧ fs.length ≤ 1000 ∧ dx ≠ a ∧ h.get? a = some (PySem.W.instObj C dx) ∧
      ∃ mA, h.Ns1 dx mA ∧ (∀ f, RelO (fs.lookup f) (mA f)) ∧ PySem.Within mA (fs.map (·.1))
  | .own _ => ∃ o, h.get? a = some o
  | .xd fs => ∃ mA, h.Ns1 a mA ∧ ∀ f, RelO (fs.lookup f) (mA f)
  | .rng lo hi => ∃ t u v, h.get? a = some { cls := .type "range", data := .fields #[.int lo t, .int hi u, .int 1 v] }
  | .frz o u => h.get? a = some o ∧ ObjOk H h a u
  | .tbl ps => h.get? a = some { cls := .none, data := .fields ps }
  | .met f x => h.get? a = some (PySem.W.methodObj (.ref f) (.ref x))
  | .ext φ => φ h ∧ (∃ o, h.get? a = some o) ∧ ∀ h1 h2 : Heap, φ h1 → (∀ o, h1.get? a = some o → h2.get? a = some o) → φ h2
def HOk (H : Hp) (h : Heap) : Prop := ∀ a o, H a = some o → ObjOk P w H h a o
end

section
variable {P : Program} {w : World} {H H' : Hp} {h h' : Heap} {a : Addr} {o : HO}
theorem ObjOk.lt (x : ObjOk P w H h a o) : a < h.objs.size := by
  cases o with
  | lst xs => obtain ⟨_, _, _, _, e⟩ := x; exact Heap.lt_size e
  | tup xs => obtain ⟨_, _, _, p⟩ := x; exact p.lt
  | dK kvs => obtain ⟨_, _, _, _, o, _, _, e, _⟩ := x; exact Heap.lt_size e
  | dT kvs => obtain ⟨_, _, _, _, o, _, _, e, _⟩ := x; exact Heap.lt_size e
  | set S n => obtain ⟨o, _, _, _, e, _⟩ := x; exact Heap.lt_size e
  | ins C dx fs => obtain ⟨_, _, _, e, _⟩ := x; exact Heap.lt_size e
  | own y => obtain ⟨_, e⟩ := x; exact Heap.lt_size e
  | xd fs => obtain ⟨_, ⟨_, _, _, e, _⟩, _⟩ := x; exact Heap.lt_size e
  | rng lo hi => obtain ⟨_, _, _, e⟩ := x; exact Heap.lt_size e
  | frz ob u => obtain ⟨e, _⟩ := x; exact Heap.lt_size e
  | tbl ps => exact Heap.lt_size (show h.get? a = some _ from x)
  | met f y => exact Heap.lt_size (show h.get? a = some _ from x)
  | ext φ => obtain ⟨_, ⟨_, e⟩, _⟩ := x; exact Heap.lt_size e
theorem Paired.mapP {α β : Type} {F G : α → β → Prop} : ∀ {l₁ : List α} {l₂ : List β}, Paired F l₁ l₂ → (∀ a b, F a b → G a b) → Paired G l₁ l₂
  | _, _, .nil, _ => .nil
  | _, _, .cons r t, f => .cons (f _ _ r) (Paired.mapP t f)
theorem ObjOk.stay (x : ObjOk P w H h a o) (k : ∀ b u, (b = a ∨ H b = some (.own a)) → h.get? b = some u → h'.get? b = some u)
    (ho : ∀ b, H b = some (.own a) → H' b = some (.own a)) (ht : ∀ b xs, H b = some (.tup xs) → H' b = some (.tup xs)) : ObjOk P w H' h' a o := by
  induction o with
  | lst xs => obtain ⟨z, its, n, r, e⟩ := x; exact ⟨z, its, n, r, k _ _ (.inl rfl) e⟩
  | tup xs => obtain ⟨z, its, r, ob, e, c⟩ := x; exact ⟨z, its, r, ob, k _ _ (.inl rfl) e, c⟩
  | dK kvs => obtain ⟨z, y, vs, r, ob, es, ep, e, c⟩ := x; exact ⟨z, y, vs, r, ob, es, ep, k _ _ (.inl rfl) e, c⟩
  | dT kvs =>
    obtain ⟨z, y, xs, r, ob, es, ep, e, c⟩ := x
    exact ⟨z, y, xs, Paired.mapP r fun p q z => ⟨z.1, ht _ _ z.2.1, z.2.2⟩, ob, es, ep, k _ _ (.inl rfl) e, c⟩
  | set S n => obtain ⟨ob, es, ep, t, e, c⟩ := x; exact ⟨ob, es, ep, t, k _ _ (.inl rfl) e, c⟩
  | ins C dx fs =>
    obtain ⟨d, z, ne, e, mA, ⟨od, es, ep, e2, c⟩, r⟩ := x
    exact ⟨ho _ d, z, ne, k _ _ (.inl rfl) e, mA, ⟨od, es, ep, k _ _ (.inr d) e2, c⟩, r⟩
  | own y => obtain ⟨ob, e⟩ := x; exact ⟨ob, k _ _ (.inl rfl) e⟩
  | xd fs => obtain ⟨mA, ⟨od, es, ep, e, c⟩, r⟩ := x; exact ⟨mA, ⟨od, es, ep, k _ _ (.inl rfl) e, c⟩, r⟩
  | rng lo hi => obtain ⟨t, u, v, e⟩ := x; exact ⟨t, u, v, k _ _ (.inl rfl) e⟩
  | frz ob u ih => obtain ⟨e, q⟩ := x; exact ⟨k _ _ (.inl rfl) e, ih q⟩
  | tbl ps =>
    have e : h.get? a = some { cls := .none, data := .fields ps } := x
    show h'.get? a = some { cls := .none, data := .fields ps }
    exact k a _ (.inl rfl) e
  | met f y =>
    have e : h.get? a = some (PySem.W.methodObj (.ref f) (.ref y)) := x
    show h'.get? a = some (PySem.W.methodObj (.ref f) (.ref y))
    exact k a _ (.inl rfl) e
  | ext φ => obtain ⟨p, ⟨o, e⟩, st⟩ := x; exact ⟨st _ _ p fun o q => k _ _ (.inl rfl) q, ⟨o, k _ _ (.inl rfl) e⟩, st⟩
theorem HOk.lt (x : HOk P w H h) (e : H a = some o) : a < h.objs.size := (x a o e).lt
theorem HOk.fresh (x : HOk P w H h) (e : h.objs.size ≤ a) : H a = none := by
  cases q : H a with
  | none => rfl
  | some u => exact absurd (Nat.lt_of_lt_of_le (x.lt q) e) (Nat.lt_irrefl _)
theorem HOk.kept (x : HOk P w H h) (k : ∀ b u, h.get? b = some u → h'.get? b = some u) : HOk P w H h' := fun a o e =>
  (x a o e).stay (fun b u _ q => k b u q) (fun _ q => q) fun _ _ q => q
theorem HOk.laid (x : HOk P w H h) (k : ∀ b u, h.get? b = some u → h'.get? b = some u) (hp : h.objs.size ≤ a) (new : ObjOk P w (upd H a o) h' a o) : HOk P w (upd H a o) h' := fun b u e => by
  have hn := x.fresh hp
  by_cases hb : b = a
  · subst hb; rw [upd_same] at e; cases e; exact new
  · rw [upd_ne hb] at e
    exact (x b u e).stay (fun c v _ q => k c v q) (fun c q => by rw [upd_ne (ne_of_none q hn)]; exact q) fun c xs q => by rw [upd_ne (ne_of_none q hn)]; exact q
end

def Rd (H : Hp) (a : Addr) (u : HO) : Prop := H a = some u ∨ ∃ o, H a = some (.frz o u)
theorem Rd.of {H : Hp} {a : Addr} {u : HO} (h : H a = some u) : Rd H a u := .inl h
theorem Rd.ok {P : Program} {w : World} {H : Hp} {h : Heap} {a : Addr} {u : HO} (r : Rd H a u) (x : HOk P w H h) : ObjOk P w H h a u := by
  rcases r with r | ⟨o, r⟩
  · exact x a u r
  · obtain ⟨_, q⟩ := x a _ r
    exact q
def Mut : Option HO → Prop
  | some (.lst _) => True
  | some (.dK _) => True
  | some (.dT _) => True
  | some (.set _ _) => True
  | some (.ins _ _ _) => True
  | some (.ext _) => True
  | _ => False
section
variable {P : Program} {w : World} {H : Hp} {h h' : Heap} {x e : Addr} {o' : HO}
theorem HOk.write (ok : HOk P w H h) (mu : Mut (H x)) (he : e = x ∨ H e = some (.own x)) (k : ∀ b u, b ≠ e → h.get? b = some u → h'.get? b = some u) (heo : ∃ u, h'.get? e = some u)
    (new : ObjOk P w (upd H x o') h' x o') : HOk P w (upd H x o') h' := fun b u q => by
  have nown : ∀ c y, H c = some (.own y) → c ≠ x := fun c y r z => by subst z; rw [r] at mu; exact mu
  have ntup : ∀ c xs, H c = some (.tup xs) → c ≠ x := fun c xs r z => by subst z; rw [r] at mu; exact mu
  by_cases hb : b = x
  · subst hb; rw [upd_same] at q; cases q; exact new
  · rw [upd_ne hb] at q
    by_cases hbe : b = e
    · have q' : H b = some (.own x) := by
        rcases he with z | z
        · exact absurd (hbe.trans z) hb
        · rw [hbe]; exact z
      rw [q] at q'; cases q'
      obtain ⟨v, hv⟩ := heo
      exact ⟨v, by rw [hbe]; exact hv⟩
    · refine (ok b u q).stay (fun c v hc r => k c v ?_ r) (fun c r => by rw [upd_ne (nown c b r)]; exact r) fun c xs r => by rw [upd_ne (ntup c xs r)]; exact r
      rcases hc with rfl | hc
      · exact hbe
      · rintro rfl
        rcases he with z | z
        · exact nown c b hc z
        · rw [hc] at z; cases z; exact hb rfl
end

/-! ### kept unless tracked; of the frames at fs (the callers') the slots may change (an exception that passes writes there); of the records at ex (iterators) nothing is said -/
structure Un (fs ex : List Addr) (H H' : Hp) (h h' : Heap) : Prop where
  keep : ∀ b o, h.get? b = some o → H b = none → b ∉ fs → b ∉ ex → h'.get? b = some o
  slot : ∀ b o, h.get? b = some o → H b = none → b ∈ fs → b ∉ ex → ∃ sl, h'.get? b = some { o with slots := sl }
  free : ∀ b o, h.get? b = some o → H b = none → b ∉ ex → H' b = none
  there : ∀ b o, h.get? b = some o → b ∉ ex → ∃ o', h'.get? b = some o'
  tups : ∀ b xs, H b = some (.tup xs) → H' b = some (.tup xs)
  frzs : ∀ b o u, H b = some (.frz o u) → H' b = some (.frz o u)
  tbls : ∀ b ps, H b = some (.tbl ps) → ∃ more, H' b = some (.tbl (ps ++ more))
section
variable {fs fs' ex ex' : List Addr} {H H1 H2 : Hp} {h h1 h2 h' : Heap} {a x e : Addr} {o : HO}
theorem Un.any (u : Un fs ex H H1 h h1) {b : Addr} {ob : Obj} (q : h.get? b = some ob) (n : H b = none) (hx : b ∉ ex) : ∃ sl, h1.get? b = some { ob with slots := sl } := by
  by_cases hb : b ∈ fs
  · exact u.slot b ob q n hb hx
  · exact ⟨ob.slots, u.keep b ob q n hb hx⟩
theorem Un.trans (a : Un fs ex H H1 h h1) (b : Un fs ex H1 H2 h1 h2) : Un fs ex H H2 h h2 where
  keep := fun c ob q n hc hx => b.keep c ob (a.keep c ob q n hc hx) (a.free c ob q n hx) hc hx
  slot := fun c ob q n hc hx => by
    obtain ⟨sl, e1⟩ := a.slot c ob q n hc hx
    obtain ⟨sl', e2⟩ := b.slot c _ e1 (a.free c ob q n hx) hc hx
    exact ⟨sl', e2⟩
  free := fun c ob q n hx => by
    obtain ⟨o', e1⟩ := a.there c ob q hx
    exact b.free c o' e1 (a.free c ob q n hx) hx
  there := fun c ob q hx => by
    obtain ⟨o', e1⟩ := a.there c ob q hx
    exact b.there c o' e1 hx
  tups := fun c xs q => b.tups c xs (a.tups c xs q)
  frzs := fun c ob xs q => b.frzs c ob xs (a.frzs c ob xs q)
  tbls := fun c ps q => by
    obtain ⟨m1, e1⟩ := a.tbls c ps q
    obtain ⟨m2, e2⟩ := b.tbls c _ e1
    exact ⟨m1 ++ m2, by rw [e2, Array.append_assoc]⟩
theorem Un.kept (k : ∀ b u, h.get? b = some u → h'.get? b = some u) : Un fs ex H H h h' :=
  ⟨fun b ob q _ _ _ => k b ob q, fun b ob q _ _ _ => ⟨ob.slots, k b ob q⟩, fun _ _ _ n _ => n, fun b ob q _ => ⟨ob, k b ob q⟩, fun _ _ q => q, fun _ _ _ q => q, fun _ ps q => ⟨#[], by rw [q]; simp⟩⟩
theorem Un.refl : Un fs ex H H h h := Un.kept fun _ _ q => q
theorem Un.laid (k : ∀ b u, h.get? b = some u → h'.get? b = some u) (hp : h.objs.size ≤ a) (hn : H a = none) : Un fs ex H (upd H a o) h h' where
  keep := fun b u q _ _ _ => k b u q
  slot := fun b u q _ _ _ => ⟨u.slots, k b u q⟩
  free := fun b u q n _ => by rw [upd_ne (Nat.ne_of_lt (Nat.lt_of_lt_of_le (Heap.lt_size q) hp))]; exact n
  there := fun b u q _ => ⟨u, k b u q⟩
  tups := fun b xs q => by rw [upd_ne (ne_of_none q hn)]; exact q
  frzs := fun b u xs q => by rw [upd_ne (ne_of_none q hn)]; exact q
  tbls := fun b ps q => ⟨#[], by rw [upd_ne (ne_of_none q hn), q]; simp⟩
theorem Un.write (mu : Mut (H x)) (he : e = x ∨ H e = some (.own x)) (k : ∀ b u, b ≠ e → h.get? b = some u → h'.get? b = some u) (heo : ∃ u, h'.get? e = some u) : Un fs ex H (upd H x o) h h' := by
  have hx : ∀ b, H b = none → b ≠ x := fun b n z => by subst z; rw [n] at mu; exact mu
  have hb : ∀ b, H b = none → b ≠ e := fun b n z => by
    subst z
    rcases he with r | r
    · exact hx b n r
    · rw [n] at r; cases r
  have hm : ∀ b u, H b = some u → ¬ Mut (some u) → b ≠ x := fun b u q nm z => by subst z; rw [q] at mu; exact nm mu
  refine ⟨fun b u q n _ _ => k b u (hb b n) q, fun b u q n _ _ => ⟨u.slots, k b u (hb b n) q⟩, fun b u q n _ => by rw [upd_ne (hx b n)]; exact n, fun b u q _ => ?_,
    fun b xs q => by rw [upd_ne (hm b _ q fun z => z)]; exact q, fun b u xs q => by rw [upd_ne (hm b _ q fun z => z)]; exact q, fun b ps q => ⟨#[], by rw [upd_ne (hm b _ q fun z => z), q]; simp⟩⟩
  by_cases hbe : b = e
  · subst hbe; exact heo
  · exact ⟨u, k b u hbe q⟩
theorem Un.mono (u : Un fs ex H H1 h h1) (hs : ∀ b ∈ fs, b ∈ fs') (hx : ∀ b ∈ ex, b ∈ ex') : Un fs' ex' H H1 h h1 :=
  ⟨fun b ob q n hb he => u.keep b ob q n (fun z => hb (hs b z)) fun z => he (hx b z), fun _ _ q n _ he => u.any q n fun z => he (hx _ z), fun b ob q n he => u.free b ob q n fun z => he (hx b z), fun b ob q he => u.there b ob q fun z => he (hx b z), u.tups, u.frzs, u.tbls⟩
end

/-! ### the heap without what is tracked -/
def trk (h : Heap) (H : Hp) : List Addr := (List.range h.objs.size).filter fun a => (H a).isSome
def hidT (h : Heap) (H : Hp) : Heap := PySem.W.hideAll h (trk h H)
theorem hidT_size (h : Heap) (H : Hp) : (hidT h H).objs.size = h.objs.size := PySem.W.hideAll_size _ _
theorem hidT_get {h : Heap} {H : Hp} {b : Addr} {o : Obj} (e : h.get? b = some o) (n : H b = none) : (hidT h H).get? b = some o :=
  PySem.W.hideAll_get _ e fun hm => by
    have q : (H b).isSome = true := (List.mem_filter.mp hm).2
    rw [n] at q; simp at q
theorem of_hidT {h : Heap} {H : Hp} {b : Addr} {o : Obj} (e : (hidT h H).get? b = some o) : h.get? b = some o ∧ H b = none := by
  have e' : h.get? b = some o := PySem.W.of_hideAll (trk h H) e
  refine ⟨e', ?_⟩
  cases q : H b with
  | none => rfl
  | some x =>
    have hm : b ∈ trk h H := List.mem_filter.mpr ⟨List.mem_range.mpr (Heap.lt_size e'), by simp [q]⟩
    have z : (hidT h H).get? b = none := PySem.W.hideAll_none (trk h H) hm
    rw [z] at e; cases e

/-! ### OpenK's ledger, filled with every new object but one -/
def allNews (g h : Heap) (L : Addr) : List (Addr × Obj) := (List.range h.objs.size).filterMap fun a => if a = L ∨ (g.get? a).isSome = true then none else (h.get? a).map fun o => (a, o)
def rest (g h : Heap) (L d : Addr) : List (Addr × Obj) := (allNews g h L).filter fun p => decide (p.1 ≠ d)
end L2

namespace L2
open PySem PySem.Spec PyProof.Rows

structure Mod (K : PySem.W.Frag) (mg : Str → Option Value) (base : Heap) : Prop where
  kin : K.In base
  glob : base.Ns mainGlobals mg
  blt : ∃ mb, base.Ns builtinsNs mb ∧ ∀ x : Str, x ≠ "__name__" → mb x = bootBuiltins x
  nolimit : base.NoLimit

structure Cx where
  prog : Program
  w : World
  K : PySem.W.Frag
  mg : Str → Option Value
  base : Heap
  A : Around
  N : List Str
  s₀ : Shared
  H₀ : Hp
  env : Env
  outer : List Env
  stack : List Env
  ex : List Addr
  fn : Str → Bool
  calm : Bool
  pn : List (Addr × Obj)
  xe : Value → Shared → Prop
def frs (l : List Env) : List Addr := l.filterMap (·.frame)
abbrev Cx.fs (X : Cx) : List Addr := frs X.outer

def Vis (sc : Scope) (x : Str) : Prop := sc.names.lookup x = some .local ∨ sc.names.lookup x = some .cell ∨ sc.names.lookup x = some .free
def Loc (sc : Scope) (x : Str) : Prop := sc.names.lookup x = some .local ∨ sc.names.lookup x = some .cell
def Look (env : Env) (h : Heap) (m : Str → Option Value) (x : Str) (u : Value) : Prop :=
  (env.kindOf x = some .local ∧ m x = some u) ∨ ((env.kindOf x = some .cell ∨ env.kindOf x = some .free) ∧ ∃ c, env.cells.lookup x = some c ∧ h.IsCell c (some u))

structure Cx.Ok (X : Cx) : Prop where
  mod : Mod X.K X.mg X.base
  kind : X.env.scope.kind = .function
  glob : X.env.globals = mainGlobals
  blt : X.env.builtins = builtinsNs
  above : X.s₀.heap.objs.size ≤ X.env.locals
  inj : ∀ x y c, X.env.cells.lookup x = some c → X.env.cells.lookup y = some c → x = y
  has : ∀ x, (X.env.kindOf x = some .cell ∨ X.env.kindOf x = some .free) → ∃ c, X.env.cells.lookup x = some c
  cab : ∀ x c, X.fn x = true → X.env.cells.lookup x = some c → X.s₀.heap.objs.size ≤ c
  hd : X.calm = true → X.A.handled = none
  frames : X.A.frames = some X.stack
  stk : X.stack = X.outer ∨ (X.stack = X.env :: X.outer ∧ X.env.frame = some X.env.locals)
  exf : ∀ b ∈ X.ex, b ≠ X.env.locals ∧ ∀ x c, X.env.cells.lookup x = some c → c ≠ b
  bs : ∀ b o, X.base.get? b = some o → X.s₀.heap.get? b = some o ∧ X.H₀ b = none
  bsz : X.base.objs.size ≤ X.s₀.heap.objs.size
  noex : ∀ b o, X.base.get? b = some o → b ∉ X.ex
  exfs : ∀ b ∈ X.ex, b ∉ X.fs
  funs : X.s₀.heap.FunFrames X.base X.outer
  frf : ∀ b ∈ X.fs, X.H₀ b = none

structure Inv (X : Cx) (pins : List (Addr × Obj)) (σ : List (Option V)) (H : Hp) (s : Shared) : Prop where
  ok : X.Ok
  os : s.os = X.s₀.os
  bare : AllBare s.gens
  base : Un X.fs X.ex X.H₀ H X.s₀.heap s.heap
  loc : ∃ m, s.heap.Ns X.env.locals m ∧ ∀ (i : Nat) (x : Str) (v : V), X.N[i]? = some x → σ[i]? = some (some v) → Vis X.env.scope x → ∃ u, RelV v u ∧ Look X.env s.heap m x u
  cell : ∀ x c, X.env.cells.lookup x = some c → ∃ v, s.heap.IsCell c v
  free : H X.env.locals = none
  freeC : ∀ x c, X.env.cells.lookup x = some c → H c = none
  pin : ∀ p ∈ X.pn ++ pins, s.heap.get? p.1 = some p.2 ∧ H p.1 = none ∧ p.1 ≠ X.env.locals ∧ p.1 ∉ X.fs ∧ ∀ v, p.2.data ≠ .cell v
  hok : HOk X.prog X.w H s.heap
  len : σ.length = X.N.length

section
variable {X : Cx} {pins : List (Addr × Obj)} {σ : List (Option V)} {H H' : Hp} {s : Shared} {h' : Heap}

theorem Cx.Ok.nofr (ok : X.Ok) {b : Addr} {o : Obj} (e : X.base.get? b = some o) : b ∉ X.fs := fun hb => by
  have := (ok.funs.mem hb).1
  rw [e] at this; cases this
theorem Inv.bs (I : Inv X pins σ H s) : ∀ b o, X.base.get? b = some o → s.heap.get? b = some o ∧ H b = none := fun b o e =>
  ⟨I.base.keep b o (I.ok.bs b o e).1 (I.ok.bs b o e).2 (I.ok.nofr e) (I.ok.noex b o e), I.base.free b o (I.ok.bs b o e).1 (I.ok.bs b o e).2 (I.ok.noex b o e)⟩
theorem Inv.bk (I : Inv X pins σ H s) : ∀ b o, X.base.get? b = some o → s.heap.get? b = some o := fun b o e => (I.bs b o e).1
theorem Inv.mod (I : Inv X pins σ H s) : Mod X.K X.mg X.base := I.ok.mod
theorem Inv.kIn (I : Inv X pins σ H s) : X.K.In s.heap := I.ok.mod.kin.keeps I.bk
theorem Inv.nolimit (I : Inv X pins σ H s) : s.heap.NoLimit := I.ok.mod.nolimit.keeps I.bk
theorem Inv.fr (I : Inv X pins σ H s) : ∃ m, Fr X.base X.env.locals s.heap m :=
  let ⟨m, hn, _⟩ := I.loc
  ⟨m, hn, I.bk, Nat.le_trans I.ok.bsz I.ok.above⟩
theorem Inv.lt (I : Inv X pins σ H s) : X.env.locals < s.heap.objs.size := let ⟨_, hn, _⟩ := I.loc; hn.lt
theorem Inv.sz (I : Inv X pins σ H s) : X.s₀.heap.objs.size ≤ s.heap.objs.size := Nat.le_trans I.ok.above (Nat.le_of_lt I.lt)
theorem Inv.nofs (I : Inv X pins σ H s) {a : Addr} (h : s.heap.objs.size ≤ a) : a ∉ X.fs := fun hb => by
  obtain ⟨_, o, ho, _⟩ := I.ok.funs.mem hb
  exact absurd (Nat.lt_of_lt_of_le (Heap.lt_size ho) (Nat.le_trans I.sz h)) (Nat.lt_irrefl _)
theorem Inv.cne (I : Inv X pins σ H s) : ∀ x c, X.env.cells.lookup x = some c → c ≠ X.env.locals := fun x c e z => by
  obtain ⟨v, o, ho, hd⟩ := I.cell x c e
  obtain ⟨m, ⟨o', es, ep, ho', hd', _⟩, _⟩ := I.loc
  rw [z, ho'] at ho; cases ho; rw [hd'] at hd; cases hd
theorem Inv.funs (I : Inv X pins σ H s) : s.heap.FunFrames X.base X.outer := by
  have all : ∀ (l : List Env), (∀ b ∈ frs l, b ∈ X.fs) → X.s₀.heap.FunFrames X.base l → s.heap.FunFrames X.base l := by
    intro l
    induction l with
    | nil => intro _ _; trivial
    | cons env r ih =>
      intro hs hl
      obtain ⟨hk, ⟨L, o, hf, hn, ho, hd⟩, hr⟩ := hl
      have hL : L ∈ X.fs := hs L (by unfold frs; rw [List.filterMap_cons, hf]; exact List.mem_cons_self)
      obtain ⟨sl, e⟩ := I.base.slot L o ho (I.ok.frf L hL) hL fun z => I.ok.exfs L z hL
      exact ⟨hk, ⟨L, _, hf, hn, e, hd⟩, ih (fun b hb => hs b (by unfold frs; rw [List.filterMap_cons, hf]; exact List.mem_cons_of_mem _ hb)) hr⟩
  exact all X.outer (fun _ hb => hb) I.ok.funs

theorem Inv.stack (I : Inv X pins σ H s) : s.heap.FunFrames X.base X.stack := by
  rcases I.ok.stk with e | ⟨e, hf⟩
  · rw [e]; exact I.funs
  · rw [e]
    obtain ⟨m, hn, _⟩ := I.loc
    refine .cons (by rw [I.ok.kind]; decide) hf hn ?_ I.funs
    exact Heap.get?_none_of_le (Nat.le_trans I.ok.bsz I.ok.above)
theorem Inv.stkSub (I : Inv X pins σ H s) : ∀ b ∈ frs X.stack, b ∈ X.env.locals :: X.fs := fun b hb => by
  rcases I.ok.stk with e | ⟨e, hf⟩
  · rw [e] at hb; exact List.mem_cons_of_mem _ hb
  · rw [e] at hb
    unfold frs at hb
    rw [List.filterMap_cons, hf] at hb
    exact hb
theorem Inv.stkFree (I : Inv X pins σ H s) : ∀ b ∈ frs X.stack, H b = none := fun b hb => by
  rcases List.mem_cons.mp (I.stkSub b hb) with e | hb
  · rw [e]; exact I.free
  · obtain ⟨_, o, ho, _⟩ := I.ok.funs.mem hb
    exact I.base.free b o ho (I.ok.frf b hb) fun z => I.ok.exfs b z hb

theorem Inv.step {g' : Array GenState} {t' : Nat} {d' : Drawn} {ch : List Addr} (I : Inv X pins σ H s)
    (hch : ∀ b ∈ ch, (b ∈ X.ex ∨ X.s₀.heap.objs.size ≤ b) ∧ b ≠ X.env.locals ∧ (∀ x c, X.env.cells.lookup x = some c → c ≠ b) ∧ ∀ p ∈ X.pn ++ pins, p.1 ≠ b)
    (keep : ∀ b o, b ≠ X.env.locals → b ∉ X.fs → b ∉ ch → s.heap.get? b = some o → H b = none → h'.get? b = some o)
    (slot : ∀ b o, b ≠ X.env.locals → b ∈ X.fs → b ∉ ch → s.heap.get? b = some o → H b = none → ∃ sl, h'.get? b = some { o with slots := sl }) (free : ∀ b o, b ∉ ch → s.heap.get? b = some o → H b = none → H' b = none)
    (there : ∀ b o, b ∉ ch → s.heap.get? b = some o → ∃ o', h'.get? b = some o')
    (tups : ∀ b xs, H b = some (.tup xs) → H' b = some (.tup xs)) (frzs : ∀ b o u, H b = some (.frz o u) → H' b = some (.frz o u)) (tbls : ∀ b ps, H b = some (.tbl ps) → ∃ more, H' b = some (.tbl (ps ++ more)))
    (ns : ∀ m, s.heap.Ns X.env.locals m → h'.Ns X.env.locals m) (hok : HOk X.prog X.w H' h') (hg : AllBare g') :
    Inv X pins σ H' { s with heap := h', gens := g', drawn := d', toks := t' } := by
  have neL : ∀ b o, X.s₀.heap.get? b = some o → b ≠ X.env.locals := fun b o e => Nat.ne_of_lt (Nat.lt_of_lt_of_le (Heap.lt_size e) I.ok.above)
  have neC : ∀ b o, X.s₀.heap.get? b = some o → b ∉ X.ex → b ∉ ch := fun b o e hx hb => by
    rcases (hch b hb).1 with z | z
    · exact hx z
    · exact absurd (Nat.lt_of_lt_of_le (Heap.lt_size e) z) (Nat.lt_irrefl _)
  have cellK : ∀ x c, X.env.cells.lookup x = some c → ∀ v, s.heap.IsCell c v → h'.IsCell c v := fun x c e v ⟨o, ho, hd⟩ => by
    have nch : c ∉ ch := fun z => (hch c z).2.2.1 x c e rfl
    by_cases hc : c ∈ X.fs
    · obtain ⟨sl, q⟩ := slot c o (I.cne x c e) hc nch ho (I.freeC x c e)
      exact ⟨_, q, hd⟩
    · exact ⟨o, keep c o (I.cne x c e) hc nch ho (I.freeC x c e), hd⟩
  refine ⟨I.ok, I.os, hg, ⟨fun b o e n hb hx => ?_, fun b o e n hb hx => ?_, fun b o e n hx => ?_, fun b o e hx => ?_, fun b xs e => tups b xs (I.base.tups b xs e), fun b o xs e => frzs b o xs (I.base.frzs b o xs e), fun b ps e => ?_⟩, ?_, fun x c e => ?_, ?_, fun x c e => ?_, fun p hp => ?_, hok, I.len⟩
  · exact keep b o (neL b o e) hb (neC b o e hx) (I.base.keep b o e n hb hx) (I.base.free b o e n hx)
  · obtain ⟨sl, e1⟩ := I.base.slot b o e n hb hx
    obtain ⟨sl', e2⟩ := slot b _ (neL b o e) hb (neC b o e hx) e1 (I.base.free b o e n hx)
    exact ⟨sl', e2⟩
  · obtain ⟨o', e1⟩ := I.base.there b o e hx
    exact free b o' (neC b o e hx) e1 (I.base.free b o e n hx)
  · obtain ⟨o', e1⟩ := I.base.there b o e hx
    exact there b o' (neC b o e hx) e1
  · obtain ⟨m1, e1⟩ := I.base.tbls b ps e
    obtain ⟨m2, e2⟩ := tbls b _ e1
    exact ⟨m1 ++ m2, by rw [e2, Array.append_assoc]⟩
  · obtain ⟨m, hn, hl⟩ := I.loc
    refine ⟨m, ns m hn, fun i x v e1 e2 e3 => ?_⟩
    obtain ⟨u, r, l⟩ := hl i x v e1 e2 e3
    refine ⟨u, r, ?_⟩
    rcases l with l | ⟨k, c, e, z⟩
    · exact .inl l
    · exact .inr ⟨k, c, e, cellK x c e _ z⟩
  · obtain ⟨v, z⟩ := I.cell x c e
    exact ⟨v, cellK x c e v z⟩
  · obtain ⟨m, ⟨o, _, _, ho, _⟩, _⟩ := I.loc
    exact free _ o (fun z => (hch _ z).2.1 rfl) ho I.free
  · obtain ⟨v, o, ho, hd⟩ := I.cell x c e
    exact free c o (fun z => (hch c z).2.2.1 x c e rfl) ho (I.freeC x c e)
  · obtain ⟨e, n, ne, nf, d⟩ := I.pin p hp
    have nch : p.1 ∉ ch := fun z => (hch p.1 z).2.2.2 p hp rfl
    exact ⟨keep p.1 p.2 ne nf nch e n, free p.1 p.2 nch e n, ne, nf, d⟩
theorem Inv.un {t' : Nat} (I : Inv X pins σ H s) (u : Un X.fs [] H H' s.heap h') (hok : HOk X.prog X.w H' h') : Inv X pins σ H' { s with heap := h', toks := t' } := by
  obtain ⟨m, ⟨o, es, ep, ho, r⟩, _⟩ := id I.loc
  obtain ⟨sl, hL⟩ := u.any ho I.free (by simp)
  exact I.step (g' := s.gens) (d' := s.drawn) (ch := []) (fun _ z => nomatch z) (fun b o _ hb _ e n => u.keep b o e n hb (by simp)) (fun b o _ hb _ e n => u.slot b o e n hb (by simp)) (fun b o _ e n => u.free b o e n (by simp)) (fun b o _ e => u.there b o e (by simp)) u.tups u.frzs u.tbls (fun m' hm => by
    obtain ⟨o', es', ep', ho', r'⟩ := hm
    rw [ho] at ho'; cases ho'
    exact ⟨_, es', ep', hL, r'⟩) hok I.bare
theorem Inv.call {g' : Array GenState} {t' : Nat} {d' : Drawn} {ch : List Addr} (I : Inv X pins σ H s) (u : Un (frs X.stack) ch H H' s.heap h') (hok : HOk X.prog X.w H' h') (hg : AllBare g')
    (hch : ∀ b ∈ ch, (b ∈ X.ex ∨ X.s₀.heap.objs.size ≤ b) ∧ b ≠ X.env.locals ∧ (∀ x c, X.env.cells.lookup x = some c → c ≠ b) ∧ ∀ p ∈ X.pn ++ pins, p.1 ≠ b) :
    Inv X pins σ H' { s with heap := h', gens := g', drawn := d', toks := t' } := by
  obtain ⟨m, ⟨o, es, ep, ho, r⟩, _⟩ := id I.loc
  obtain ⟨sl, hL⟩ := u.any ho I.free fun z => (hch _ z).2.1 rfl
  exact I.step (ch := ch) hch (fun b o hL hb hc e n => u.keep b o e n (fun z => (List.mem_cons.mp (I.stkSub b z)).elim hL hb) hc) (fun b o _ _ hc e n => u.any e n hc) (fun b o hc e n => u.free b o e n hc) (fun b o hc e => u.there b o e hc) u.tups u.frzs u.tbls (fun m' hm => by
    obtain ⟨o', es', ep', ho', r'⟩ := hm
    rw [ho] at ho'; cases ho'
    exact ⟨_, es', ep', hL, r'⟩) hok hg
theorem Inv.turned {t' : Nat} {it : Addr} (I : Inv X pins σ H s) (k : ∀ b o, b ≠ it → s.heap.get? b = some o → h'.get? b = some o) (hn : H it = none) (hL : it ≠ X.env.locals)
    (h1 : it ∈ X.ex ∨ X.s₀.heap.objs.size ≤ it) (h2 : ∀ x c, X.env.cells.lookup x = some c → c ≠ it) (h3 : ∀ p ∈ X.pn ++ pins, p.1 ≠ it) : Inv X pins σ H { s with heap := h', toks := t' } := by
  have nit : ∀ b u, H b = some u → b ≠ it := fun b u e z => by rw [z, hn] at e; cases e
  refine I.step (g' := s.gens) (d' := s.drawn) (ch := [it]) (fun b hb => ?_) (fun b o _ _ hc e _ => k b o (fun z => hc (by simp [z])) e) (fun b o _ _ hc e _ => ⟨o.slots, k b o (fun z => hc (by simp [z])) e⟩) (fun _ _ _ _ n => n)
    (fun b o hc e => ⟨o, k b o (fun z => hc (by simp [z])) e⟩) (fun _ _ e => e) (fun _ _ _ e => e) (fun b ps e => ⟨#[], by rw [e]; simp⟩) (fun m hm => ?_) (fun b u e => ?_) I.bare
  · have e : b = it := by simpa using hb
    subst e
    exact ⟨h1, hL, h2, h3⟩
  · obtain ⟨o, es, ep, ho, r⟩ := hm
    exact ⟨o, es, ep, k _ o (Ne.symm hL) ho, r⟩
  · refine (I.hok b u e).stay (fun c v hc q => k c v ?_ q) (fun _ q => q) fun _ _ q => q
    rcases hc with z | z
    · rw [z]; exact nit b u e
    · exact nit c _ z
theorem Inv.tok (I : Inv X pins σ H s) (t : Nat) : Inv X pins σ H { s with toks := t } := I.un (h' := s.heap) (t' := t) Un.refl I.hok
theorem Inv.kept {t' : Nat} (I : Inv X pins σ H s) (k : ∀ b u, s.heap.get? b = some u → h'.get? b = some u) : Inv X pins σ H { s with heap := h', toks := t' } := I.un (Un.kept k) (I.hok.kept k)
theorem Inv.laid {a : Addr} {o : HO} {t' : Nat} (I : Inv X pins σ H s) (k : ∀ b u, s.heap.get? b = some u → h'.get? b = some u) (hp : s.heap.objs.size ≤ a) (new : ObjOk X.prog X.w (upd H a o) h' a o) :
    Inv X pins σ (upd H a o) { s with heap := h', toks := t' } := I.un (Un.laid k hp (I.hok.fresh hp)) (I.hok.laid k hp new)
theorem Inv.write {x e : Addr} {o : HO} {t' : Nat} (I : Inv X pins σ H s) (mu : Mut (H x)) (he : e = x ∨ H e = some (.own x)) (k : ∀ b u, b ≠ e → s.heap.get? b = some u → h'.get? b = some u) (heo : ∃ u, h'.get? e = some u)
    (new : ObjOk X.prog X.w (upd H x o) h' x o) : Inv X pins σ (upd H x o) { s with heap := h', toks := t' } := I.un (Un.write mu he k heo) (I.hok.write mu he k heo new)
theorem Inv.pins_of {pins' : List (Addr × Obj)} (I : Inv X pins σ H s) (h : ∀ p ∈ pins', s.heap.get? p.1 = some p.2 ∧ H p.1 = none ∧ p.1 ≠ X.env.locals ∧ p.1 ∉ X.fs ∧ ∀ v, p.2.data ≠ .cell v) : Inv X pins' σ H s :=
  ⟨I.ok, I.os, I.bare, I.base, I.loc, I.cell, I.free, I.freeC, fun p hp => (List.mem_append.mp hp).elim (fun z => I.pin p (List.mem_append_left _ z)) (h p), I.hok, I.len⟩

theorem nodup_ix {N : List Str} (hN : N.Nodup) {i j : Nat} {x : Str} (a : N[i]? = some x) (b : N[j]? = some x) : i = j := by
  obtain ⟨h1, e1⟩ := List.getElem?_eq_some_iff.mp a
  obtain ⟨h2, e2⟩ := List.getElem?_eq_some_iff.mp b
  exact (List.getElem_inj hN).mp (e1.trans e2.symm)

theorem store_ok2 {M : Model} {A : Around} {E : Value → Shared → Prop} {i : Nat} {x : Str} {v : V} {u : Value} {Q : Unit → Shared → Prop} (I : Inv X pins σ H s) (hN : X.N.Nodup) (hi : X.N[i]? = some x) (hx : Loc X.env.scope x) (r : RelV v u)
    (h : ∀ s', Inv X pins (σ.set i (some v)) H s' → (∃ a, Heap.SameBut a s.heap s'.heap ∧ (a = X.env.locals ∨ X.env.cells.lookup x = some a)) → Q () s') (hf : X.fn x = true ∨ X.env.scope.names.lookup x = some .local := by first | exact .inl rfl | exact .inr rfl | assumption) : wpAny M A (storeName X.env x u) Q E s := by
  obtain ⟨m, hn, hl⟩ := id I.loc
  have hcls : (X.env.scope.kind == .class || (X.env.scope.kind == .module && X.env.locals != X.env.globals)) = false := by rw [I.ok.kind]; rfl
  have hiσ : i < σ.length := by rw [I.len]; exact (List.getElem?_eq_some_iff.mp hi).1
  have cne := I.cne
  have tracked : ∀ {a : Addr} {h' : Heap}, (∃ o, s.heap.get? a = some o ∧ H a = none) → Heap.SameBut a s.heap h' → HOk X.prog X.w H h' := fun {a h'} ha hs b ob e => by
    obtain ⟨_, _, hfree⟩ := ha
    refine (I.hok b ob e).stay (fun c w' hc q => (hs.2 c ?_).trans q) (fun _ q => q) fun _ _ q => q
    rintro rfl
    rcases hc with rfl | hc
    · rw [hfree] at e; cases e
    · rw [hfree] at hc; cases hc
  rcases hx with hk | hk
  · refine wpAny_storeName_local hk hn (fun h' hn' hs => ?_) hcls
    obtain ⟨oL, _, _, hoL, _⟩ := id hn
    refine h _ ⟨I.ok, I.os, I.bare, ⟨fun b o e n hb hx => ?_, fun b o e n hb hx => ?_, I.base.free, fun b o e hx => ?_, I.base.tups, I.base.frzs, I.base.tbls⟩, ⟨_, hn', fun j y v' e1 e2 e3 => ?_⟩, fun y c e => ?_, I.free, I.freeC, fun p hp => ?_, tracked ⟨oL, hoL, I.free⟩ hs, by simpa using I.len⟩ ⟨_, hs, .inl rfl⟩
    · exact (hs.2 b (Nat.ne_of_lt (Nat.lt_of_lt_of_le (Heap.lt_size e) I.ok.above))).trans (I.base.keep b o e n hb hx)
    · obtain ⟨sl, e1⟩ := I.base.slot b o e n hb hx
      exact ⟨sl, (hs.2 b (Nat.ne_of_lt (Nat.lt_of_lt_of_le (Heap.lt_size e) I.ok.above))).trans e1⟩
    · obtain ⟨o', e1⟩ := I.base.there b o e hx
      exact ⟨o', (hs.2 b (Nat.ne_of_lt (Nat.lt_of_lt_of_le (Heap.lt_size e) I.ok.above))).trans e1⟩
    · by_cases hj : j = i
      · subst hj
        rw [hi] at e1; cases e1
        rw [List.getElem?_set_self hiσ] at e2
        cases e2
        exact ⟨u, r, .inl ⟨hk, by simp⟩⟩
      · rw [List.getElem?_set_ne (Ne.symm hj)] at e2
        obtain ⟨u', r', q⟩ := hl j y v' e1 e2 e3
        refine ⟨u', r', ?_⟩
        rcases q with ⟨k, e⟩ | ⟨k, c, e, z⟩
        · refine .inl ⟨k, ?_⟩
          have : y ≠ x := fun e => hj (nodup_ix hN e1 (e ▸ hi))
          simp [this, e]
        · exact .inr ⟨k, c, e, z.sameBut hs (cne y c e)⟩
    · obtain ⟨w', z⟩ := I.cell y c e
      exact ⟨w', z.sameBut hs (cne y c e)⟩
    · obtain ⟨e, n, ne, nf, d⟩ := I.pin p hp
      exact ⟨(hs.2 p.1 ne).trans e, n, ne, nf, d⟩
  · have hfn : X.fn x = true := by
      rcases hf with z | z
      · exact z
      · rw [z] at hk; cases hk
    obtain ⟨c, hc⟩ := I.ok.has x (.inl hk)
    obtain ⟨w', z⟩ := I.cell x c hc
    refine wpAny_storeName_cell I.ok.kind hk hc z (fun h' hc' hs => ?_)
    obtain ⟨oc, hoc, hocd⟩ := id z
    refine h { s with heap := h' } ⟨I.ok, I.os, I.bare, ⟨fun b o e n hb hx => ?_, fun b o e n hb hx => ?_, I.base.free, fun b o e hx => ?_, I.base.tups, I.base.frzs, I.base.tbls⟩, ⟨m, hn.sameBut hs (Ne.symm (cne x c hc)), fun j y v' e1 e2 e3 => ?_⟩, fun y c' e => ?_, I.free, I.freeC, fun p hp => ?_, tracked ⟨oc, hoc, I.freeC x c hc⟩ hs, by simpa using I.len⟩ ⟨c, hs, .inr hc⟩
    · exact (hs.2 b (Nat.ne_of_lt (Nat.lt_of_lt_of_le (Heap.lt_size e) (I.ok.cab x c hfn hc)))).trans (I.base.keep b o e n hb hx)
    · obtain ⟨sl, e1⟩ := I.base.slot b o e n hb hx
      exact ⟨sl, (hs.2 b (Nat.ne_of_lt (Nat.lt_of_lt_of_le (Heap.lt_size e) (I.ok.cab x c hfn hc)))).trans e1⟩
    · obtain ⟨o', e1⟩ := I.base.there b o e hx
      exact ⟨o', (hs.2 b (Nat.ne_of_lt (Nat.lt_of_lt_of_le (Heap.lt_size e) (I.ok.cab x c hfn hc)))).trans e1⟩
    · by_cases hj : j = i
      · subst hj
        rw [hi] at e1; cases e1
        rw [List.getElem?_set_self hiσ] at e2
        cases e2
        exact ⟨u, r, .inr ⟨.inl hk, c, hc, hc'⟩⟩
      · rw [List.getElem?_set_ne (Ne.symm hj)] at e2
        obtain ⟨u', r', q⟩ := hl j y v' e1 e2 e3
        refine ⟨u', r', ?_⟩
        rcases q with q | ⟨k, c', e, z'⟩
        · exact .inl q
        · refine .inr ⟨k, c', e, z'.sameBut hs ?_⟩
          rintro rfl
          exact hj (nodup_ix hN e1 (I.ok.inj _ _ _ e hc ▸ hi))
    · by_cases hcc : c' = c
      · subst hcc; exact ⟨_, hc'⟩
      · obtain ⟨w2, z2⟩ := I.cell y c' e
        exact ⟨w2, z2.sameBut hs hcc⟩
    · obtain ⟨e, n, ne, nf, d⟩ := I.pin p hp
      refine ⟨(hs.2 p.1 ?_).trans e, n, ne, nf, d⟩
      intro q
      rw [q, hoc] at e
      have q' : oc = p.2 := Option.some.inj e
      exact d w' (by rw [← q']; exact hocd)
theorem store_ok {M : Model} {A : Around} {E : Value → Shared → Prop} {i : Nat} {x : Str} {v : V} {u : Value} {Q : Unit → Shared → Prop} (I : Inv X pins σ H s) (hN : X.N.Nodup) (hi : X.N[i]? = some x) (hx : Loc X.env.scope x) (r : RelV v u)
    (h : ∀ s', Inv X pins (σ.set i (some v)) H s' → Q () s') (hf : X.fn x = true ∨ X.env.scope.names.lookup x = some .local := by first | exact .inl rfl | exact .inr rfl | assumption) : wpAny M A (storeName X.env x u) Q E s :=
  store_ok2 I hN hi hx r (fun s' I' _ => h s' I') hf
theorem Inv.call' {s' : Shared} {ch : List Addr} (I : Inv X pins σ H s) (ho : s'.os = s.os) (u : Un (frs X.stack) ch H H' s.heap s'.heap) (hok : HOk X.prog X.w H' s'.heap) (hg : AllBare s'.gens)
    (hch : ∀ b ∈ ch, (b ∈ X.ex ∨ X.s₀.heap.objs.size ≤ b) ∧ b ≠ X.env.locals ∧ (∀ x c, X.env.cells.lookup x = some c → c ≠ b) ∧ ∀ p ∈ X.pn ++ pins, p.1 ≠ b) : Inv X pins σ H' s' := by
  obtain ⟨h', g', d', t', o'⟩ := s'
  have e : o' = s.os := ho
  subst e
  exact I.call (g' := g') (t' := t') (d' := d') u hok hg hch
end

/-! ### the judgements -/
/-- an exception: its class, its own dict's address (where it has one), the abstract heap behind it -/
abbrev XK := Value → Option Addr → Hp → Prop
abbrev St := List (Option V)
abbrev VK := V → Hp → Prop
abbrev TE := St → Hp → VK → Prop
abbrev TT := St → Hp → (Bool → Hp → Prop) → Prop
abbrev TA := St → Hp → (List V → Hp → Prop) → Prop
structure Ends where
  nx : St → Hp → Prop
  rt : VK
  bk : St → Hp → Prop := fun _ _ => False
  ct : St → Hp → Prop := fun _ _ => False
abbrev TS := Ends → St → Hp → Prop

def EP (X : Cx) (pins : List (Addr × Obj)) (σ : St) (Q : VK) (u : Value) (s' : Shared) : Prop := ∃ v H', Inv X pins σ H' s' ∧ RelV v u ∧ Q v H'
def TP (X : Cx) (pins : List (Addr × Obj)) (σ : St) (Q : Bool → Hp → Prop) (b : Bool) (s' : Shared) : Prop := ∃ H', Inv X pins σ H' s' ∧ Q b H'
def AP (X : Cx) (pins : List (Addr × Obj)) (σ : St) (Q : List V → Hp → Prop) (us : List Value) (s' : Shared) : Prop := ∃ vs H', Inv X pins σ H' s' ∧ Vals vs us ∧ Q vs H'
def SP (X : Cx) (pins : List (Addr × Obj)) (D : Ends) (f : Flow) (s' : Shared) : Prop :=
  match f with
  | .next => ∃ σ' H', Inv X pins σ' H' s' ∧ D.nx σ' H'
  | .brk => ∃ σ' H', Inv X pins σ' H' s' ∧ D.bk σ' H'
  | .cont => ∃ σ' H', Inv X pins σ' H' s' ∧ D.ct σ' H'
  | .ret u => ∃ v σ' H', Inv X pins σ' H' s' ∧ RelV v u ∧ D.rt v H'

def PE (X : Cx) (e : Expr) (t : TE) : Prop :=
  ∀ (pins : List (Addr × Obj)) (s : Shared) (σ : St) (H : Hp) (Q : VK), Inv X pins σ H s → t σ H Q → wpAny (model X.prog X.w) X.A (eval e X.env) (EP X pins σ Q) X.xe s
def PT (X : Cx) (e : Expr) (t : TT) : Prop :=
  ∀ (pins : List (Addr × Obj)) (s : Shared) (σ : St) (H : Hp) (Q : Bool → Hp → Prop), Inv X pins σ H s → t σ H Q → wpAny (model X.prog X.w) X.A (isTrue e X.env (eval e X.env)) (TP X pins σ Q) X.xe s
def PW (X : Cx) (e : Expr) (t : TT) : Prop :=
  ∀ (whole : Sem Value) (pins : List (Addr × Obj)) (s : Shared) (σ : St) (H : Hp) (Q : Bool → Hp → Prop), Inv X pins σ H s → t σ H Q → wpAny (model X.prog X.w) X.A (isTrue e X.env whole) (TP X pins σ Q) X.xe s
theorem PW.pt {X : Cx} {e : Expr} {t : TT} (h : PW X e t) : PT X e t := h _
def PA (X : Cx) (es : List Expr) (t : TA) : Prop :=
  ∀ (pos : Pos) (pins : List (Addr × Obj)) (s : Shared) (σ : St) (H : Hp) (Q : List V → Hp → Prop), Inv X pins σ H s → t σ H Q → wpAny (model X.prog X.w) X.A (spliced (backTo pos (starEach es X.env))) (AP X pins σ Q) X.xe s
def PS (X : Cx) (st : Stmt) (t : TS) : Prop :=
  ∀ (pins : List (Addr × Obj)) (s : Shared) (σ : St) (H : Hp) (D : Ends), Inv X pins σ H s → t D σ H → wpAny (model X.prog X.w) X.A (exec st X.env) (SP X pins D) X.xe s
def PSs (X : Cx) (st : List Stmt) (t : TS) : Prop :=
  ∀ (pins : List (Addr × Obj)) (s : Shared) (σ : St) (H : Hp) (D : Ends), Inv X pins σ H s → t D σ H → wpAny (model X.prog X.w) X.A (execs st X.env) (SP X pins D) X.xe s
theorem thn {α : Type} {t : Sem α} {Q Q' : α → Shared → Prop} {M : Model} {A : Around} {E : Value → Shared → Prop} {s : Shared} (h : wpAny M A t Q E s) (hQ : ∀ a s, Q a s → Q' a s) : wpAny M A t Q' E s := wpAny_mono h hQ fun _ _ x => x
end L2

namespace L2
open PySem PySem.Spec PyProof.Rows
section
variable {X : Cx}

/-! ### names and constants -/
def tVar (i : Nat) : TE := fun σ H Q => ∃ v, σ[i]? = some (some v) ∧ Q v H
def tC (v : V) : TE := fun _ H Q => Q v H
theorem pe_var {i : Nat} {x : Str} {pos : Pos} (hN : X.N[i]? = some x) (hv : Vis X.env.scope x) (hd : (x == ("__debug__" : Str)) = false := by decide) (hcd : (x == ("__classdict__" : Str)) = false := by decide) : PE X (.Name x pos) (tVar i) := by
  intro pins s σ H Q I h
  obtain ⟨v, e, h⟩ := h
  obtain ⟨m, hn, hl⟩ := I.loc
  obtain ⟨u, r, l⟩ := hl i x v hN e hv
  have fin : EP X pins σ Q u s := ⟨v, H, I, r, h⟩
  rcases l with ⟨hk, hm⟩ | ⟨hk, c, hc, hcell⟩
  · exact wpAny_Name (wpAny_loadName_local I.ok.kind hk hn hm fin) hd
  · rcases hk with hk | hk
    · exact wpAny_Name (wpAny_loadName_cell I.ok.kind hk hc hcell fin) hd
    · exact wpAny_Name (wpAny_loadName_free I.ok.kind hk hc hcell fin hcd) hd
theorem pe_int {i j pos} : PE X (.Constant (.int i) j pos) (tC (.int i)) := fun _ _ _ H _ I h => wpAny_Constant_int ⟨.int i, H, I.tok _, ⟨_, rfl⟩, h⟩
theorem pe_bl {b j pos} : PE X (.Constant (.bool b) j pos) (tC (.bl b)) := fun _ _ _ H _ I h => Constant_bool ⟨.bl b, H, I, rfl, h⟩
theorem pe_str {x j pos} : PE X (.Constant (.str x) j pos) (tC (.str x)) := fun _ _ _ H _ I h => Calls.Constant_str ⟨.str x, H, I.tok _, ⟨_, rfl⟩, h⟩

def Gl (X : Cx) (x : Str) : Prop := X.env.kindOf x = some .globalImplicit
theorem ld_glob {E : Value → Shared → Prop} {pins : List (Addr × Obj)} {s : Shared} {σ : St} {H : Hp} {x : Str} {u : Value} {pos : Pos} {Q : Value → Shared → Prop} (I : Inv X pins σ H s) (hg : Gl X x) (hm : X.mg x = some u) (h : Q u s)
    (hd : (x == ("__debug__" : Str)) = false := by decide) : wpAny (model X.prog X.w) X.A (eval (.Name x pos) X.env) Q E s :=
  Calls.Name_function_global I.ok.kind hg (Calls.loadGlobal_global (by rw [I.ok.glob]; exact I.mod.glob.keeps I.bk) hm h) hd
theorem ld_blt {E : Value → Shared → Prop} {pins : List (Addr × Obj)} {s : Shared} {σ : St} {H : Hp} {x : Str} {u : Value} {pos : Pos} {Q : Value → Shared → Prop} (I : Inv X pins σ H s) (hg : Gl X x) (hm : X.mg x = none) (hv : bootBuiltins x = some u) (h : Q u s)
    (hn : x ≠ "__name__" := by decide) (hd : (x == ("__debug__" : Str)) = false := by decide) : wpAny (model X.prog X.w) X.A (eval (.Name x pos) X.env) Q E s := by
  obtain ⟨mb, h1, h2⟩ := I.mod.blt
  exact Calls.Name_function_global I.ok.kind hg (Calls.loadGlobal_builtin (by rw [I.ok.glob]; exact I.mod.glob.keeps I.bk) hm (by rw [I.ok.blt]; exact h1.keeps I.bk) ((h2 x hn).trans hv) h) hd
theorem pe_glob {x : Str} {v : V} {u : Value} {pos : Pos} (hg : Gl X x) (hm : X.mg x = some u) (r : RelV v u) (hd : (x == ("__debug__" : Str)) = false := by decide) : PE X (.Name x pos) (tC v) :=
  fun _ _ _ H _ I h => ld_glob I hg hm ⟨v, H, I, r, h⟩ hd
theorem pe_bltn {x : Str} {v : V} {u : Value} {pos : Pos} (hg : Gl X x) (hm : X.mg x = none) (hv : bootBuiltins x = some u) (r : RelV v u) (hn : x ≠ "__name__" := by decide) (hd : (x == ("__debug__" : Str)) = false := by decide) : PE X (.Name x pos) (tC v) :=
  fun _ _ _ H _ I h => ld_blt I hg hm hv ⟨v, H, I, r, h⟩ hn hd

variable {a b : Expr} {ta tb : TE} {pos : Pos}
/-! ### comparisons -/
def PC (X : Cx) (op : CmpOp) (a b : Expr) (t : TE) : Prop :=
  ∀ (pins : List (Addr × Obj)) (s : Shared) (σ : St) (H : Hp) (Q : VK), Inv X pins σ H s → t σ H Q →
    wpAny (model X.prog X.w) X.A (eval a X.env) (fun v s₁ => wpAny (model X.prog X.w) X.A (eval b X.env) (fun u s₂ => wpAny (model X.prog X.w) X.A (compareOp op v u) (EP X pins σ Q) X.xe s₂) X.xe s₁) X.xe s
theorem nobehind (b : Expr) {op : CmpOp} (h : op ≠ .In) (h2 : op ≠ .NotIn) : behindInMarks op b = false := by
  have e1 : (op == CmpOp.In) = false := by cases op <;> first | rfl | exact absurd rfl h
  have e2 : (op == CmpOp.NotIn) = false := by cases op <;> first | rfl | exact absurd rfl h2
  cases b <;> simp [behindInMarks, e1, e2]
/-! ### and, or, not -/
variable {tA tB' : TT} {rest : List Expr}
def tAnd (t u : TT) : TT := fun σ H Q => t σ H fun c H1 => if c = true then u σ H1 Q else Q false H1
def tOr (t u : TT) : TT := fun σ H Q => t σ H fun c H1 => if c = true then Q true H1 else u σ H1 Q
def tNot (t : TT) : TT := fun σ H Q => t σ H fun c H1 => Q (!c) H1
theorem pw_or1 (ha : PT X a tA) : PW X (.BoolOp .Or [a] pos) tA := by
  intro wh pins s σ H Q I h
  refine isTrue_or (thn (ha pins s σ H Q I h) fun c s1 e => ?_)
  cases c with
  | false => exact isTrue_or_nil e
  | true => exact e
theorem pw_or (ha : PT X a tA) (hb : PW X (.BoolOp .Or (b :: rest) pos) tB') : PW X (.BoolOp .Or (a :: b :: rest) pos) (tOr tA tB') := by
  intro wh pins s σ H Q I h
  refine isTrue_or (thn (ha pins s σ H _ I h) fun c s1 ⟨H1, I1, q1⟩ => ?_)
  cases c with
  | true => exact ⟨H1, I1, q1⟩
  | false => exact hb wh pins s1 σ H1 Q I1 q1
theorem pt_not (ha : PT X a tA) : PT X (.UnaryOp .Not a pos) (tNot tA) := by
  intro pins s σ H Q I h
  exact isTrue_not (ha pins s σ H (fun c H1 => Q (!c) H1) I h)
theorem pe_one {op} {t : TE} (h : PE X a t) : PE X (.BoolOp op [a] pos) t := fun pins s σ H Q I hw => BoolOp_one (h pins s σ H Q I hw)
def tIf (t : TT) (ta tb : TE) : TE := fun σ H Q => t σ H fun c H1 => if c = true then ta σ H1 Q else tb σ H1 Q
end
end L2

namespace L2
open PySem PySem.Spec PyProof.Rows

/-! ### a list, a tuple that is read: tracked, frozen, or an object of the module -/
def SqL (K : PySem.W.Frag) (H : Hp) (a : Addr) (xs : List V) : Prop :=
  Rd H a (.lst xs) ∨
    ∃ (o : Obj) (its : Array Value) (n : Nat), K.lookup a = some o ∧ o.cls = .type "list" ∧ o.dict = none ∧ o.data = .seq its n ∧ its.size ≤ sizeLine ∧ Vals xs its.toList
def SqT (K : PySem.W.Frag) (H : Hp) (a : Addr) (xs : List V) : Prop :=
  Rd H a (.tup xs) ∨
    ∃ (o : Obj) (its : Array Value) (n : Nat), K.lookup a = some o ∧ o.cls = .type "tuple" ∧ o.data = .seq its n ∧ its.size ≤ sizeLine ∧ Vals xs its.toList
def absV : Value → Option V
  | .none => some .non
  | .bool b => some (.bl b)
  | .int i _ => some (.int i)
  | .str x _ => some (.str x)
  | .bytes b _ => some (.byt b)
  | .float b _ => some (.flt b)
  | .ref a => some (.ref a)
  | .type n => some (.ty n)
  | _ => none
theorem RelV.abs {x : V} {u : Value} (r : RelV x u) : absV u = some x := by
  cases x with
  | non => cases r; rfl
  | bl _ => cases r; rfl
  | int _ => obtain ⟨t, rfl⟩ := r; rfl
  | str _ => obtain ⟨t, rfl⟩ := r; rfl
  | byt _ => obtain ⟨t, rfl⟩ := r; rfl
  | flt _ => obtain ⟨t, rfl⟩ := r; rfl
  | ref _ => cases r; rfl
  | ty _ => cases r; rfl
theorem RelV.inj {x y : V} {u : Value} (r : RelV x u) (q : RelV y u) : x = y := Option.some.inj (r.abs.symm.trans q.abs)
theorem Vals.inj : ∀ {xs ys : List V} {us : List Value}, Vals xs us → Vals ys us → xs = ys
  | _, _, _, .nil, .nil => rfl
  | _, _, _, .cons r t, .cons r' t' => by rw [r.inj r', Vals.inj t t']
section
variable {X : Cx} {pins : List (Addr × Obj)} {σ : St} {H : Hp} {s : Shared} {a : Addr} {xs ys : List V}
theorem SqL.of {K : PySem.W.Frag} (h : H a = some (.lst xs)) : SqL K H a xs := .inl (.inl h)
theorem SqT.of {K : PySem.W.Frag} (h : H a = some (.tup xs)) : SqT K H a xs := .inl (.inl h)
theorem Inv.list (I : Inv X pins σ H s) (h : SqL X.K H a xs) : ∃ its : List Value, Vals xs its ∧ PlainL s.heap a its.toArray ∧ xs.length ≤ sizeLine := by
  rcases h with h | ⟨o, its, n, hk, hc, hd, hs, hz, r⟩
  · obtain ⟨z, its, n, r, e⟩ := h.ok I.hok
    exact ⟨its, r, ⟨_, n, e, rfl, rfl, rfl⟩, z⟩
  · refine ⟨its.toList, r, ⟨o, n, I.kIn a o hk, hc, hd, by simpa using hs⟩, ?_⟩
    have e := r.length
    simp only [Array.length_toList] at e
    omega
theorem Inv.tuple (I : Inv X pins σ H s) (h : SqT X.K H a xs) : ∃ its : List Value, Vals xs its ∧ IsTup s.heap a its.toArray ∧ xs.length ≤ sizeLine := by
  rcases h with h | ⟨o, its, n, hk, hc, hs, hz, r⟩
  · obtain ⟨z, its, r, p⟩ := h.ok I.hok
    exact ⟨its, r, p, z⟩
  · refine ⟨its.toList, r, ⟨o, I.kIn a o hk, hc, n, by simpa using hs⟩, ?_⟩
    have e := r.length
    simp only [Array.length_toList] at e
    omega
theorem Inv.list_inj (I : Inv X pins σ H s) (h : SqL X.K H a xs) (h' : SqL X.K H a ys) : xs = ys := by
  obtain ⟨its, r, ⟨o, n, e, _, _, d⟩, _⟩ := I.list h
  obtain ⟨its', r', ⟨o', n', e', _, _, d'⟩, _⟩ := I.list h'
  rw [e] at e'; cases e'
  rw [d] at d'
  injection d' with d1 _
  have : its = its' := by simpa using congrArg Array.toList d1
  subst this
  exact r.inj r'
end

/-! ### another wish about exceptions -/
abbrev Cx.wish (X : Cx) (E : Value → Shared → Prop) : Cx := { X with xe := E }
abbrev Cx.nox (X : Cx) : Cx := X.wish fun _ _ => False
theorem Cx.Ok.wish {X : Cx} (ok : X.Ok) (E : Value → Shared → Prop) : (X.wish E).Ok :=
  ⟨ok.mod, ok.kind, ok.glob, ok.blt, ok.above, ok.inj, ok.has, ok.cab, ok.hd, ok.frames, ok.stk, ok.exf, ok.bs, ok.bsz, ok.noex, ok.exfs, ok.funs, ok.frf⟩
theorem Cx.Ok.unwish {X : Cx} {E : Value → Shared → Prop} (ok : (X.wish E).Ok) : X.Ok :=
  ⟨ok.mod, ok.kind, ok.glob, ok.blt, ok.above, ok.inj, ok.has, ok.cab, ok.hd, ok.frames, ok.stk, ok.exf, ok.bs, ok.bsz, ok.noex, ok.exfs, ok.funs, ok.frf⟩
section
variable {X : Cx} {pins : List (Addr × Obj)} {σ : St} {H : Hp} {s : Shared} {E : Value → Shared → Prop}
theorem Inv.wish (I : Inv X pins σ H s) (E : Value → Shared → Prop) : Inv (X.wish E) pins σ H s := ⟨I.ok.wish E, I.os, I.bare, I.base, I.loc, I.cell, I.free, I.freeC, I.pin, I.hok, I.len⟩
theorem Inv.unwish (I : Inv (X.wish E) pins σ H s) : Inv X pins σ H s := ⟨I.ok.unwish, I.os, I.bare, I.base, I.loc, I.cell, I.free, I.freeC, I.pin, I.hok, I.len⟩
theorem SP.unwish {D : Ends} {f : Flow} {s' : Shared} (h : SP (X.wish E) pins D f s') : SP X pins D f s' := by
  cases f with
  | next => obtain ⟨σ', H', I, q⟩ := h; exact ⟨σ', H', I.unwish, q⟩
  | brk => obtain ⟨σ', H', I, q⟩ := h; exact ⟨σ', H', I.unwish, q⟩
  | cont => obtain ⟨σ', H', I, q⟩ := h; exact ⟨σ', H', I.unwish, q⟩
  | ret u => obtain ⟨v, σ', H', I, r, q⟩ := h; exact ⟨v, σ', H', I.unwish, r, q⟩
theorem PE.nox {e : Expr} {t : TE} (h : PE X.nox e t) : PE X e t := fun pins s σ H Q I hw =>
  wpAny_mono (h pins s σ H Q (I.wish _) hw) (fun _ _ ⟨v, H', I', r, q⟩ => ⟨v, H', I'.unwish, r, q⟩) fun _ _ z => False.elim z
theorem PT.nox {e : Expr} {t : TT} (h : PT X.nox e t) : PT X e t := fun pins s σ H Q I hw =>
  wpAny_mono (h pins s σ H Q (I.wish _) hw) (fun _ _ ⟨H', I', q⟩ => ⟨H', I'.unwish, q⟩) fun _ _ z => False.elim z
theorem PSs.nox {st : List Stmt} {t : TS} (h : PSs X.nox st t) : PSs X st t := fun pins s σ H D I hw =>
  wpAny_mono (h pins s σ H D (I.wish _) hw) (fun _ _ q => q.unwish) fun _ _ z => False.elim z
end

/-! ### blocks and small statements -/
section
variable {X : Cx} {st : Stmt} {rest : List Stmt} {t u : TS} {e : Expr} {te : TE} {pos : Pos}
def tNext : TS := fun D σ H => D.nx σ H
def tSeq (t u : TS) : TS := fun D σ H => t { D with nx := u D } σ H
theorem pss_nil : PSs X [] tNext := fun _ _ σ H _ I h => wpAny_execs_nil ⟨σ, H, I, h⟩
theorem pss_cons (h1 : PS X st t) (h2 : PSs X rest u) : PSs X (st :: rest) (tSeq t u) := by
  intro pins s σ H D I h
  refine wpAny_execs_cons (thn (h1 pins s σ H { D with nx := u D } I h) fun f s1 q => ?_)
  cases f with
  | next =>
    obtain ⟨σ', H', I', q⟩ := q
    exact h2 pins s1 σ' H' D I' q
  | ret v => exact q
  | brk => exact q
  | cont => exact q
theorem pss_one (h1 : PS X st t) : PSs X [st] t := by
  intro pins s σ H D I h
  refine wpAny_execs_cons (thn (h1 pins s σ H D I h) fun f s1 q => ?_)
  cases f with
  | next => exact wpAny_execs_nil q
  | ret v => exact q
  | brk => exact q
  | cont => exact q
theorem Inv.quiet {pins : List (Addr × Obj)} {σ : St} {H : Hp} {s : Shared} (I : Inv X pins σ H s) : interactive X.env = false := by simp [interactive, I.ok.kind]
def tDrop (te : TE) : TS := fun D σ H => te σ H fun _ H1 => D.nx σ H1
theorem ps_expr (he : PE X e te) (hs : swapsWith e none pos.line X.env = pure false := by rfl) : PS X (.Expr e pos) (tDrop te) := by
  intro pins s σ H D I h
  exact wpAny_Expr_any (thn (he pins s σ H _ I h) fun v s1 ⟨x, H1, I1, r1, q1⟩ => ⟨σ, H1, I1, q1⟩) I.quiet hs
def tRet (te : TE) : TS := fun D σ H => te σ H D.rt
theorem ps_ret (he : PE X e te) : PS X (.Return (some e) pos) (tRet te) := by
  intro pins s σ H D I h
  exact wpAny_Return_some (thn (he pins s σ H _ I h) fun v s1 ⟨x, H1, I1, r1, q1⟩ => ⟨x, σ, H1, I1, r1, q1⟩)
def tRetN : TS := fun D _ H => D.rt .non H
def tIfS (c : TT) (t u : TS) : TS := fun D σ H => c σ H fun b H1 => if b = true then t D σ H1 else u D σ H1
theorem ps_if {c : Expr} {a b : List Stmt} {tc : TT} (hc : PT X c tc) (ha : PSs X a t) (hb : PSs X b u) : PS X (.If c a b pos) (tIfS tc t u) := by
  intro pins s σ H D I h
  refine wpAny_If (thn (hc pins s σ H _ I h) fun d s1 ⟨H1, I1, q1⟩ => ?_)
  cases d with
  | true => exact ha pins s1 σ H1 D I1 q1
  | false => exact hb pins s1 σ H1 D I1 q1
end

/-! ### targets -/
abbrev TG := V → St → Hp → (St → Hp → Prop) → Prop
def PG (X : Cx) (target : Expr) (t : TG) : Prop :=
  ∀ (pins : List (Addr × Obj)) (s : Shared) (σ : St) (H : Hp) (v : V) (u : Value) (Q : St → Hp → Prop), Inv X pins σ H s → RelV v u → t v σ H Q →
    wpAny (model X.prog X.w) X.A (assign target X.env u) (fun _ s' => ∃ σ' H', Inv X pins σ' H' s' ∧ Q σ' H') X.xe s
abbrev TIp := V → V → Hp → VK → Prop
section
variable {X : Cx} {pos : Pos}
def gName (i : Nat) : TG := fun v σ H Q => Q (σ.set i (some v)) H
theorem pg_name {i : Nat} {x : Str} (hN : X.N.Nodup) (hi : X.N[i]? = some x) (hx : Loc X.env.scope x) (hf : X.fn x = true ∨ X.env.scope.names.lookup x = some .local := by first | exact .inl rfl | exact .inr rfl | assumption) : PG X (.Name x pos) (gName i) := by
  intro pins s σ H v u Q I r h
  exact wpAny_assign_Name (store_ok I hN hi hx r (fun s' I' => ⟨_, H, I', h⟩) hf)
def tAsg (te : TE) (g : TG) : TS := fun D σ H => te σ H fun x H1 => g x σ H1 D.nx
theorem ps_set {i : Nat} {x : Str} {e : Expr} {te : TE} {pos' : Pos} (hN : X.N.Nodup) (hi : X.N[i]? = some x) (hx : Loc X.env.scope x) (he : PE X e te) (hs : swapsWith e (some (.Name x pos')) pos.line X.env = pure false := by rfl) (hf : X.fn x = true ∨ X.env.scope.names.lookup x = some .local := by first | exact .inl rfl | exact .inr rfl | assumption) :
    PS X (.Assign [.Name x pos'] e pos) (tAsg te (gName i)) := by
  intro pins s σ H D I h
  refine wpAny_Assign_Name (thn (he pins s σ H _ I h) fun v s1 ⟨y, H1, I1, r1, q1⟩ => ?_) hs
  exact store_ok I1 hN hi hx r1 (fun s2 I2 => ⟨_, H1, I2, q1⟩) hf
def tAug (i : Nat) (te : TE) (ti : TIp) : TS := fun D σ H => ∃ x, σ[i]? = some (some x) ∧ te σ H fun y H1 => ti x y H1 fun z H2 => D.nx (σ.set i (some z)) H2
def ipI (f : Int → Int → Int) : TIp := fun x y H Q => ∃ i j, x = .int i ∧ y = .int j ∧ Q (.int (f i j)) H
end

/-! ### while -/
section
variable {X : Cx} {pos : Pos}
end

/-! ### what a loop or a comprehension walks -/
/-- at turn i: it yields x (the heap may grow), or it stops -/
structure It where
  go : Nat → Hp → Prop
  yld : Nat → Hp → V → Hp → Prop
  stop : Nat → Hp → Prop
def FpOk (X : Cx) (pins : List (Addr × Obj)) (H : Hp) (b : Addr) : Prop :=
  H b = none ∧ b ≠ X.env.locals ∧ b ∉ X.fs ∧ (b ∈ X.ex ∨ X.s₀.heap.objs.size ≤ b) ∧ (∀ x c, X.env.cells.lookup x = some c → c ≠ b) ∧ ∀ p ∈ X.pn ++ pins, p.1 ≠ b
theorem Inv.fpOk {X : Cx} {pins : List (Addr × Obj)} {σ : St} {H H' : Hp} {s : Shared} {b : Addr} (I : Inv X pins σ H s) (hb : s.heap.objs.size ≤ b) (hn : H' b = none) : FpOk X pins H' b := by
  refine ⟨hn, Nat.ne_of_gt (Nat.lt_of_lt_of_le I.lt hb), I.nofs hb, .inr (Nat.le_trans I.sz hb), fun x c e z => ?_, fun p hp z => ?_⟩
  · obtain ⟨v, q⟩ := I.cell x c e
    exact absurd (Nat.lt_of_lt_of_le q.lt (by rw [z]; exact hb)) (Nat.lt_irrefl _)
  · exact absurd (Nat.lt_of_lt_of_le (Heap.lt_size (I.pin p hp).1) (by rw [z]; exact hb)) (Nat.lt_irrefl _)
structure Turn (P : Program) (w : World) (K : PySem.W.Frag) (tg : Expr) (J : It) (fp : List Addr) (it : Addr) (tn : Nat → Heap → Prop) : Prop where
  mem : it ∈ fp
  obj : ∀ i h, tn i h → ∀ b ∈ fp, ∃ o, h.get? b = some o ∧ ∀ v, o.data ≠ .cell v
  keep : ∀ i h h', tn i h → (∀ b ∈ fp, ∀ o, h.get? b = some o → h'.get? b = some o) → tn i h'
  item : ∀ (X : Cx), X.prog = P → X.w = w → X.K = K → X.calm = true → ∀ (i : Nat) (pins : List (Addr × Obj)) (s : Shared) (σ : St) (H : Hp) (E : Value → Shared → Prop), Inv X pins σ H s → (∀ b ∈ fp, FpOk X pins H b) → tn i s.heap → J.go i H →
    wpAny (model P w) X.A (pyNext (.ref it)) (fun r s1 => ∃ u, r = some u ∧
      wpAny (model P w) X.A (letOwnedTupleGo tg (.ref it) u) (fun _ s2 => ∃ x H', Inv X pins σ H' s2 ∧ RelV x u ∧ J.yld i H x H' ∧ tn (i + 1) s2.heap ∧ ∀ b ∈ fp, H' b = none) E s1) E s
  done : ∀ (X : Cx), X.prog = P → X.w = w → X.K = K → X.calm = true → ∀ (i : Nat) (pins : List (Addr × Obj)) (s : Shared) (σ : St) (H : Hp) (E : Value → Shared → Prop), Inv X pins σ H s → (∀ b ∈ fp, FpOk X pins H b) → tn i s.heap → J.stop i H →
    wpAny (model P w) X.A (pyNext (.ref it)) (fun r s1 => r = none ∧ Inv X pins σ H s1) E s
  self : ∀ (A : Around) (i : Nat) (s : Shared) (Q : Value → Shared → Prop) (E : Value → Shared → Prop), tn i s.heap → Q (.ref it) s → wpAny (model P w) A (pyIter (.ref it)) Q E s
abbrev TI := St → Hp → (It → Hp → Prop) → Prop
def PIE (X : Cx) (pins : List (Addr × Obj)) (σ : St) (tg : Expr) (R : It → Hp → Prop) (itv : Value) (s2 : Shared) : Prop :=
  ∃ (it : Addr) (fp : List Addr) (tn : Nat → Heap → Prop) (J : It) (H' : Hp), itv = .ref it ∧ Inv X pins σ H' s2 ∧ Turn X.prog X.w X.K tg J fp it tn ∧ tn 0 s2.heap ∧ (∀ b ∈ fp, FpOk X pins H' b) ∧ R J H'
def PI (X : Cx) (tg iter : Expr) (wi : TI) : Prop :=
  ∀ (pins : List (Addr × Obj)) (s : Shared) (σ : St) (H : Hp) (R : It → Hp → Prop), Inv X pins σ H s → wi σ H R →
    wpAny (model X.prog X.w) X.A (eval iter X.env) (fun v s1 => wpAny (model X.prog X.w) X.A (pyIter v) (PIE X pins σ tg R) X.xe s1) X.xe s

theorem go_of {M : Model} {A : Around} {E : Value → Shared → Prop} {s : Shared} {tg : Expr} {it : Addr} {u : Value} {o : Obj} {n : String} {vs : Array Value} {Q : Unit → Shared → Prop} (ho : s.heap.get? it = some o) (hc : o.cls = .type n) (hd : o.data = .fields vs)
    (hn : ["enumerate", "zip", "dict_itemiterator", "dict_reverseitemiterator", "odict_iterator", "itertools.zip_longest", "itertools.pairwise"].contains n = false) (hQ : Q () s) : wpAny M A (letOwnedTupleGo tg (.ref it) u) Q E s := by
  unfold letOwnedTupleGo
  cases tg <;> first
    | exact wpAny_pure hQ
    | (cases u <;> first
        | exact wpAny_pure hQ
        | (refine wpAny_bind (wpAny_load ho ?_)
           rw [hc, hd]
           show wpAny M A (if (["enumerate", "zip", "dict_itemiterator", "dict_reverseitemiterator", "odict_iterator", "itertools.zip_longest", "itertools.pairwise"].contains n && vs[0]? == some (rawInt _)) = true then _ else _) Q E s
           rw [if_neg (by intro h; rw [hn, Bool.false_and] at h; cases h)]
           exact wpAny_pure hQ))

def Itl (K : PySem.W.Frag) (a : Addr) : It :=
  ⟨fun i H => ∃ xs x, SqL K H a xs ∧ xs[i]? = some x, fun i H x H' => H' = H ∧ ∀ xs, SqL K H a xs → xs[i]? = some x, fun i H => ∃ xs, SqL K H a xs ∧ xs.length ≤ i⟩
def Itr (lo : Int) (n : Nat) : It := ⟨fun i _ => i < n, fun i H x H' => H' = H ∧ x = .int (lo + i), fun i _ => n ≤ i⟩
theorem turn_list {P : Program} {w : World} {K : PySem.W.Frag} {tg : Expr} (a it : Addr) : Turn P w K tg (Itl K a) [it] it (fun i h => h.IsListIter it a i) where
  mem := by simp
  obj := fun i h st b hb => by
    have e : b = it := by simpa using hb
    subst e
    obtain ⟨o, e, c, d⟩ := st
    exact ⟨o, e, fun v z => by rw [d] at z; cases z⟩
  keep := fun i h h' st k => st.at fun o e => k it (by simp) o e
  item := by
    intro X hP hw hK hc i pins s σ H E I hf st hg
    subst hP hw hK
    obtain ⟨xs, x, hq, hx⟩ := hg
    obtain ⟨its, rv, p, hz⟩ := I.list hq
    obtain ⟨u, hu, ru⟩ := rv.get hx
    obtain ⟨f0, f1, f2, f3, f4, f5⟩ := hf it (by simp)
    refine wpAny_pyNext_list_item st p.isList (x := u) (by simpa using hu) fun h' st' sb => ?_
    have I1 : Inv X pins σ H { s with heap := h' } := I.turned (t' := s.toks) (fun b o hb e => (sb.2 b hb).trans e) f0 f1 f3 f4 f5
    obtain ⟨o, e, c, d⟩ := id st'
    exact ⟨u, rfl, go_of (s := { s with heap := h' }) e c d (by decide) ⟨x, H, I1, ru, ⟨rfl, fun ys hy => by rw [I.list_inj hy hq]; exact hx⟩, st', fun b hb => (hf b hb).1⟩⟩
  done := by
    intro X hP hw hK hc i pins s σ H E I hf st hg
    subst hP hw hK
    obtain ⟨xs, hq, hx⟩ := hg
    obtain ⟨its, rv, p, hz⟩ := I.list hq
    obtain ⟨f0, f1, f2, f3, f4, f5⟩ := hf it (by simp)
    have hl := rv.length
    exact wpAny_pyNext_list_end (I.ok.hd hc) st p.isList (by simp; omega) fun h' eb => ⟨rfl, I.turned (t' := s.toks) (fun b o hb e => eb b o hb e) f0 f1 f3 f4 f5⟩
  self := fun _ _ _ _ _ st h => wpAny_pyIter_listiter st h
theorem turn_range {P : Program} {w : World} {K : PySem.W.Frag} {tg : Expr} (it : Addr) (lo : Int) (n : Nat) : Turn P w K tg (Itr lo n) [it] it (fun i h => IsRangeIter h it (lo + (i : Nat) * 1) ((n : Int) - (i : Nat)) 1) where
  mem := by simp
  obj := fun i h st b hb => by
    have e : b = it := by simpa using hb
    subst e
    exact ⟨_, st, fun v z => by
      have z' : Data.fields _ = Data.cell v := z
      cases z'⟩
  keep := fun i h h' st k => k it (by simp) _ st
  item := by
    intro X hP hw hK hc i pins s σ H E I hf st hg
    subst hP hw hK
    obtain ⟨f0, f1, f2, f3, f4, f5⟩ := hf it (by simp)
    have W := Walks.range (prog := X.prog) (w := X.w) (I.ok.hd hc) it lo 1 n
    refine W.item i s _ _ hg st fun v h' tk hv st' kk => ?_
    obtain ⟨t, rfl⟩ := hv
    have I1 : Inv X pins σ H { s with heap := h', toks := tk } := I.turned (fun b o hb e => kk b o (by simpa using hb) e) f0 f1 f3 f4 f5
    refine ⟨_, rfl, go_of (s := { s with heap := h', toks := tk }) (n := "range_iterator") st' rfl rfl (by decide) ⟨.int (lo + i), H, I1, ⟨t, ?_⟩, ⟨rfl, rfl⟩, st', fun b hb => (hf b hb).1⟩⟩
    rw [Int.mul_one]
  done := by
    intro X hP hw hK hc i pins s σ H E I hf st hg
    subst hP hw hK
    obtain ⟨f0, f1, f2, f3, f4, f5⟩ := hf it (by simp)
    exact wpAny_pyNext_range_end (I.ok.hd hc) st (by have : n ≤ i := hg; omega) fun h' eb => ⟨rfl, I.turned (t' := s.toks) (fun b o hb e => eb b o hb e) f0 f1 f3 f4 f5⟩
  self := fun _ _ _ _ _ st h => wpAny_pyIter_rangeiter st h
end L2

namespace L2
open PySem PySem.Spec PyProof.Rows
section
variable {X : Cx} {tg : Expr}
def iList (K : PySem.W.Frag) (tl : TE) : TI := fun σ H R => tl σ H fun x H1 => ∃ a, x = .ref a ∧ (∃ xs, SqL K H1 a xs) ∧ R (Itl K a) H1
theorem pi_list {l : Expr} {tl : TE} (hl : PE X l tl) : PI X tg l (iList X.K tl) := by
  intro pins s σ H R I h
  refine thn (hl pins s σ H _ I h) fun v s1 ⟨x, H1, I1, r1, q1⟩ => ?_
  obtain ⟨a, e, ⟨xs, hq⟩, q⟩ := q1
  subst e
  cases r1
  obtain ⟨its, rv, p, hz⟩ := I1.list hq
  refine wpAny_pyIter_list p.isList ?_
  refine ⟨s1.heap.objs.size, [s1.heap.objs.size], _, _, H1, rfl, I1.kept (t' := s1.toks) fun b o e => Heap.get?_push_of_some _ e, turn_list a _, ⟨_, Heap.get?_push_size _ rfl, rfl, rfl⟩, fun b hb => ?_, q⟩
  have e : b = s1.heap.objs.size := by simpa using hb
  subst e
  exact I1.fpOk (Nat.le_refl _) (I1.hok.fresh (Nat.le_refl _))
theorem range_it {pins : List (Addr × Obj)} {σ : St} {H : Hp} {s : Shared} {R : It → Hp → Prop} {E : Value → Shared → Prop} {lo hi : Int} {t u v : Tok} {tk : Nat} (I : Inv X pins σ H s) (h1 : -(2 ^ 62) ≤ lo) (h2 : lo < 2 ^ 62) (h3 : -(2 ^ 62) ≤ hi) (h4 : hi < 2 ^ 62)
    (q : R (Itr lo (hi - lo).toNat) H) : wpAny (model X.prog X.w) X.A (pyIter (.ref s.heap.objs.size)) (PIE X pins σ tg R) E { s with heap := s.heap.push { cls := .type "range", data := .fields #[.int lo t, .int hi u, .int 1 v] }, toks := tk } := by
  refine wpAny_pyIter_range (IsRange.new ..) (small_one h1 h2 h3 h4) ?_
  have I1 : Inv X pins σ H { s with heap := s.heap.push { cls := .type "range", data := .fields #[.int lo t, .int hi u, .int 1 v] }, toks := tk } := I.kept fun b o e => Heap.get?_push_of_some _ e
  refine ⟨(s.heap.push { cls := .type "range", data := .fields #[.int lo t, .int hi u, .int 1 v] }).objs.size, [(s.heap.push { cls := .type "range", data := .fields #[.int lo t, .int hi u, .int 1 v] }).objs.size], _, _, H, rfl,
    I1.kept (t' := tk) fun b o e => Heap.get?_push_of_some _ e, turn_range _ lo (hi - lo).toNat, ?_, fun b hb => ?_, q⟩
  · have e1 : lo + ((0 : Nat) : Int) * 1 = lo := by simp
    have e2 : (((hi - lo).toNat : Nat) : Int) - ((0 : Nat) : Int) = Builtin.Range.rangeSize lo hi 1 := by rw [rangeSize_one]; split <;> omega
    show IsRangeIter _ _ (lo + ((0 : Nat) : Int) * 1) ((((hi - lo).toNat : Nat) : Int) - ((0 : Nat) : Int)) 1
    rw [e1, e2]
    exact Heap.get?_push_size _ rfl
  · have e : b = (s.heap.push { cls := .type "range", data := .fields #[.int lo t, .int hi u, .int 1 v] }).objs.size := by simpa using hb
    subst e
    exact I1.fpOk (Nat.le_refl _) (I1.hok.fresh (Nat.le_refl _))
def iRng1 (ta : TA) : TI := fun σ H R => ta σ H fun vs H1 => ∃ j : Int, vs = [.int j] ∧ -(2 ^ 62) ≤ j ∧ j < 2 ^ 62 ∧ R (Itr 0 j.toNat) H1
theorem pi_range1 {a : Expr} {ta : TA} {p pos : Pos} (hg : Gl X "range") (hm : X.mg "range" = none) (ha : PA X [a] ta) (hs : starEach [a] X.env = [(false, eval a X.env)] := by rfl) : PI X tg (.Call (.Name "range" p) [a] [] pos) (iRng1 ta) := by
  intro pins s σ H R I h
  refine Call_ (ld_blt I hg hm boot_range (PyProof.Rows.callWith_type1 (thn (ha pos pins s σ H _ I h) fun us s1 ⟨vs, H1, I1, r1, q1⟩ => ?_) hs rfl))
  obtain ⟨j, e, q1, q2, q⟩ := q1
  subst e
  cases r1 with
  | cons r rr =>
    cases rr
    obtain ⟨t, rfl⟩ := r
    exact call_range_1 (range_it I1 (by omega) (by omega) q1 q2 (by simpa using q))
/-! ### for -/
/-- W: the invariant by the turn and a measure; N: what the body is to reach -/
def tFor (wi : TI) (g : TG) (tb : TS) : TS := fun D σ H => wi σ H fun J H1 => ∃ W : Nat → Nat → St → Hp → Prop, (∃ m, W 0 m σ H1) ∧ ∀ i m σ H, W i m σ H →
  (J.stop i H ∧ D.nx σ H) ∨ (J.go i H ∧ ∃ N : St → Hp → Prop, (∀ σ' H', N σ' H' → ∃ m', m' < m ∧ W (i + 1) m' σ' H') ∧ ∀ x H', J.yld i H x H' → g x σ H' fun σ2 H2 => tb { D with nx := N, ct := N, bk := D.nx } σ2 H2)
def pinsAt (fp : List Addr) (h : Heap) : List (Addr × Obj) := fp.filterMap fun b => (h.get? b).map fun o => (b, o)
theorem mem_pinsAt {fp : List Addr} {h : Heap} {b : Addr} {o : Obj} (hb : b ∈ fp) (e : h.get? b = some o) : (b, o) ∈ pinsAt fp h := List.mem_filterMap.mpr ⟨b, hb, by rw [e]; rfl⟩
theorem of_pinsAt {fp : List Addr} {h : Heap} {p : Addr × Obj} (hp : p ∈ pinsAt fp h) : p.1 ∈ fp ∧ h.get? p.1 = some p.2 := by
  obtain ⟨b, hb, e⟩ := List.mem_filterMap.mp hp
  cases q : h.get? b with
  | none => rw [q] at e; cases e
  | some o =>
    rw [q] at e
    have e' : (b, o) = p := Option.some.inj e
    subst e'
    exact ⟨hb, q⟩
theorem Inv.pinned {pins : List (Addr × Obj)} {σ : St} {H : Hp} {s : Shared} {fp : List Addr} (I : Inv X pins σ H s) (hf : ∀ b ∈ fp, FpOk X pins H b) (ho : ∀ b ∈ fp, ∃ o, s.heap.get? b = some o ∧ ∀ v, o.data ≠ .cell v) : Inv X (pins ++ pinsAt fp s.heap) σ H s :=
  I.pins_of fun p hp => (List.mem_append.mp hp).elim (fun z => I.pin p (List.mem_append_right _ z)) fun z => by
    obtain ⟨hb, e⟩ := of_pinsAt z
    obtain ⟨f0, f1, f2, _⟩ := hf p.1 hb
    obtain ⟨o, e', d⟩ := ho p.1 hb
    rw [e] at e'; cases e'
    exact ⟨e, f0, f1, f2, d⟩
theorem Inv.unpinned {pins pl : List (Addr × Obj)} {σ : St} {H : Hp} {s : Shared} (I : Inv X (pins ++ pl) σ H s) : Inv X pins σ H s := I.pins_of fun p hp => I.pin p (List.mem_append_right _ (List.mem_append_left _ hp))
theorem ps_for {iter : Expr} {body : List Stmt} {wi : TI} {g : TG} {tb : TS} {pos : Pos} (hp : PassesOwn (model X.prog X.w) X.A X.env X.xe) (hc : X.calm = true) (hi : PI X tg iter wi) (hg : PG X tg g) (hb : PSs X body tb)
    (hs : ∀ x, foldedSetIterable iter X.env x = pure x := by intro _; rfl) : PS X (.For tg iter body [] pos) (tFor wi g tb) := by
  intro pins s σ H D I h
  refine wpAny_For (thn (hi pins s σ H _ I h) fun v s1 h1 => thn h1 fun itv s2 h2 => ?_) hs
  obtain ⟨it, fp, tn, J, H2, e, I2, T, st2, f2, W, ⟨m0, w0⟩, turn⟩ := h2
  subst e
  -- what stays true of the iterator's objects through the loop
  have stat : ∀ {H' : Hp}, (∀ b ∈ fp, H' b = none) → ∀ b ∈ fp, FpOk X pins H' b := fun hn b hb => ⟨hn b hb, (f2 b hb).2⟩
  refine codeAny_forLoop_any (fun n s' => ∃ i σ' H', Inv X pins σ' H' s' ∧ tn i s'.heap ∧ (∀ b ∈ fp, H' b = none) ∧ W i n σ' H') ?_ m0 ⟨0, σ, H2, I2, st2, fun b hb => (f2 b hb).1, w0⟩
  rintro n s3 ⟨i, σ3, H3, I3, st3, fr3, w3⟩
  rcases turn i n σ3 H3 w3 with ⟨stop, qn⟩ | ⟨go, N, hN, step⟩
  · refine wpAny_passesOwn hp (thn (T.done X rfl rfl rfl hc i pins s3 σ3 H3 X.xe I3 (stat fr3) st3 stop) fun r s4 ⟨hr, I4⟩ => ?_)
    subst hr
    exact wpAny_execs_nil ⟨σ3, H3, I4, qn⟩
  · refine wpAny_passesOwn hp (thn (T.item X rfl rfl rfl hc i pins s3 σ3 H3 X.xe I3 (stat fr3) st3 go) fun r s4 ⟨u, hr, h4⟩ => ?_)
    subst hr
    refine wpAny_passesOwn hp (thn h4 fun _ s5 ⟨x, H5, I5, r5, y5, st5, fr5⟩ => ?_)
    have I5' := I5.pinned (stat fr5) (T.obj _ _ st5)
    refine wpAny_passesOwn hp (thn (hg _ s5 σ3 H5 x u _ I5' r5 (step x H5 y5)) fun _ s6 ⟨σ6, H6, I6, q6⟩ => ?_)
    refine wpAny_passesOwn hp (thn (hb _ s6 σ6 H6 _ I6 q6) fun f s7 q7 => ?_)
    have again : ∀ {σ7 : St} {H7 : Hp}, Inv X (pins ++ pinsAt fp s5.heap) σ7 H7 s7 → N σ7 H7 → ∃ m, m < n ∧ ∃ i σ' H', Inv X pins σ' H' s7 ∧ tn i s7.heap ∧ (∀ b ∈ fp, H' b = none) ∧ W i m σ' H' := fun {σ7 H7} I7 n7 => by
      obtain ⟨m', hm, w7⟩ := hN σ7 H7 n7
      refine ⟨m', hm, i + 1, σ7, H7, I7.unpinned, T.keep _ _ _ st5 fun b hb o e => (I7.pin (b, o) (List.mem_append_right _ (List.mem_append_right _ (mem_pinsAt hb e)))).1, fun b hb => ?_, w7⟩
      obtain ⟨o, e, d⟩ := T.obj _ _ st5 b hb
      exact (I7.pin (b, o) (List.mem_append_right _ (List.mem_append_right _ (mem_pinsAt hb e)))).2.1
    cases f with
    | next => obtain ⟨σ7, H7, I7, n7⟩ := q7; exact again I7 n7
    | cont => obtain ⟨σ7, H7, I7, n7⟩ := q7; exact again I7 n7
    | brk => obtain ⟨σ7, H7, I7, q7⟩ := q7; exact ⟨σ7, H7, I7.unpinned, q7⟩
    | ret v => obtain ⟨x7, σ7, H7, I7, r7, q7⟩ := q7; exact ⟨x7, σ7, H7, I7.unpinned, r7, q7⟩
end

end L2

namespace L2
open PySem PySem.Spec PyProof.Rows

abbrev R2 := V → V → Hp → VK → Prop
def OpR (X : Cx) (f : Value → Value → Sem Value) (r : R2) : Prop :=
  ∀ (pins : List (Addr × Obj)) (s : Shared) (σ : St) (H : Hp) (x y : V) (v u : Value) (Q : VK), Inv X pins σ H s → RelV x v → RelV y u → r x y H Q →
    wpAny (model X.prog X.w) X.A (f v u) (EP X pins σ Q) X.xe s
def UnR (X : Cx) (f : Value → Sem Value) (r : V → Hp → VK → Prop) : Prop :=
  ∀ (pins : List (Addr × Obj)) (s : Shared) (σ : St) (H : Hp) (x : V) (v : Value) (Q : VK), Inv X pins σ H s → RelV x v → r x H Q →
    wpAny (model X.prog X.w) X.A (f v) (EP X pins σ Q) X.xe s
def CallR (X : Cx) (f : Value) (r : List V → Hp → VK → Prop) : Prop :=
  ∀ (pins : List (Addr × Obj)) (s : Shared) (σ : St) (H : Hp) (xs : List V) (us : List Value) (Q : VK), Inv X pins σ H s → Vals xs us → r xs H Q →
    wpAny (model X.prog X.w) X.A (call f us) (EP X pins σ Q) X.xe s
def tOp (r : R2) (ta tb : TE) : TE := fun σ H Q => ta σ H fun x H1 => tb σ H1 fun y H2 => r x y H2 Q
def tUn (r : V → Hp → VK → Prop) (ta : TE) : TE := fun σ H Q => ta σ H fun x H1 => r x H1 Q
def rI (C : Int → Int → Prop) (g : Int → Int → V) : R2 := fun x y H Q => ∃ i j, x = .int i ∧ y = .int j ∧ C i j ∧ Q (g i j) H
def rI0 (g : Int → Int → V) : R2 := fun x y H Q => ∃ i j, x = .int i ∧ y = .int j ∧ Q (g i j) H
section
variable {X : Cx} {a b c : Expr} {ta tb tc : TE} {pos : Pos}

theorem binT (ha : PE X a ta) (hb : PE X b tb) {pins : List (Addr × Obj)} {s : Shared} {σ : St} {H : Hp} {R : V → V → Hp → Prop} (I : Inv X pins σ H s)
    (h : ta σ H fun x H1 => tb σ H1 fun y H2 => R x y H2) {Q : Value → Shared → Prop} {f : Value → Value → Sem Value}
    (hf : ∀ v u s2 x y H2, Inv X pins σ H2 s2 → RelV x v → RelV y u → R x y H2 → wpAny (model X.prog X.w) X.A (f v u) Q X.xe s2) :
    wpAny (model X.prog X.w) X.A (eval a X.env) (fun v s₁ => wpAny (model X.prog X.w) X.A (eval b X.env) (fun u s₂ => wpAny (model X.prog X.w) X.A (f v u) Q X.xe s₂) X.xe s₁) X.xe s := by
  refine thn (ha pins s σ H _ I h) fun v s1 ⟨x, H1, I1, r1, q1⟩ => ?_
  refine thn (hb pins s1 σ H1 _ I1 q1) fun u s2 ⟨y, H2, I2, r2, q2⟩ => ?_
  exact hf v u s2 x y H2 I2 r1 r2 q2

theorem pe_op {op : Operator} {r : R2} (ho : OpR X (binaryOp op) r) (ha : PE X a ta) (hb : PE X b tb) : PE X (.BinOp a op b pos) (tOp r ta tb) := by
  intro pins s σ H Q I h
  exact wpAny_BinOp (binT ha hb I h fun v u s2 x y H2 I2 rx ry q => ho pins s2 σ H2 x y v u Q I2 rx ry q)
/-! ### ints -/
theorem opI {f : Value → Value → Sem Value} {C : Int → Int → Prop} {g : Int → Int → Int}
    (rule : ∀ (i j : Int) (t u : Tok) (s : Shared) (Q : Value → Shared → Prop) (E : Value → Shared → Prop), C i j → Q (.int (g i j) s.toks) { s with toks := s.toks + 1 } → wpAny (model X.prog X.w) X.A (f (.int i t) (.int j u)) Q E s) :
    OpR X f (rI C fun i j => .int (g i j)) := by
  intro pins s σ H x y v u Q I rx ry h
  obtain ⟨i, j, rfl, rfl, hc, q⟩ := h
  obtain ⟨t, rfl⟩ := rx
  obtain ⟨t', rfl⟩ := ry
  exact rule i j t t' s _ _ hc ⟨.int (g i j), H, I.tok _, ⟨_, rfl⟩, q⟩
theorem opI0 {f : Value → Value → Sem Value} {g : Int → Int → Int}
    (rule : ∀ (i j : Int) (t u : Tok) (s : Shared) (Q : Value → Shared → Prop) (E : Value → Shared → Prop), Q (.int (g i j) s.toks) { s with toks := s.toks + 1 } → wpAny (model X.prog X.w) X.A (f (.int i t) (.int j u)) Q E s) :
    OpR X f (rI0 fun i j => .int (g i j)) := by
  intro pins s σ H x y v u Q I rx ry h
  obtain ⟨i, j, rfl, rfl, q⟩ := h
  obtain ⟨t, rfl⟩ := rx
  obtain ⟨t', rfl⟩ := ry
  exact rule i j t t' s _ _ ⟨.int (g i j), H, I.tok _, ⟨_, rfl⟩, q⟩
theorem opB0 {f : Value → Value → Sem Value} {g : Int → Int → Bool}
    (rule : ∀ (i j : Int) (t u : Tok) (s : Shared) (Q : Value → Shared → Prop) (E : Value → Shared → Prop), Q (.bool (g i j)) s → wpAny (model X.prog X.w) X.A (f (.int i t) (.int j u)) Q E s) :
    OpR X f (rI0 fun i j => .bl (g i j)) := by
  intro pins s σ H x y v u Q I rx ry h
  obtain ⟨i, j, rfl, rfl, q⟩ := h
  obtain ⟨t, rfl⟩ := rx
  obtain ⟨t', rfl⟩ := ry
  exact rule i j t t' s _ _ ⟨.bl (g i j), H, I, rfl, q⟩

def CDiv (i j : Int) : Prop := 0 < j ∧ j < 1073741824
def CPow (i j : Int) : Prop := 0 ≤ j ∧ j ≤ 1000000 ∧ i.natAbs < 2 ^ 64
def CMul (i j : Int) : Prop := (-(2 ^ 64) < i ∧ i < 2 ^ 64) ∨ (-(2 ^ 64) < j ∧ j < 2 ^ 64)
theorem CMul.ok {i j : Int} (h : CMul i j) : IntMulOk i j := by
  rcases h with ⟨h1, h2⟩ | ⟨h1, h2⟩
  · exact .of_left (intBits_le_64 h1 h2)
  · exact .of_right (intBits_le_64 h1 h2)
theorem op_add : OpR X (binaryOp .Add) (rI0 fun i j => .int (i + j)) := opI0 fun _ _ _ _ _ _ _ q => add_int q
theorem op_fdiv : OpR X (binaryOp .FloorDiv) (rI CDiv fun i j => .int (i / j)) := opI fun i j _ _ _ _ _ hc q => by
  have h1 : (0 : Int) < j := hc.1
  have h2 : j < 1073741824 := hc.2
  exact floordiv_int (by omega) (by rw [Int.fdiv_eq_ediv_of_nonneg i (by omega)]; exact q) (.inl (PyProof.noPylong_small (by omega)))
theorem op_mod : OpR X (binaryOp .Mod) (rI (fun _ j => 0 < j) fun i j => .int (i % j)) := opI fun i j _ _ _ _ _ hc q => by
  have h1 : (0 : Int) < j := hc
  exact mod_int' (by omega) (by rw [Int.fmod_eq_emod_of_nonneg i (by omega)]; exact q)
end

/-! ### comparisons -/
/-- the scalars that == tells apart as data does -/
def scal : V → V → Bool
  | .non, .non => true | .non, .int _ => true | .int _, .non => true | .non, .bl _ => true | .bl _, .non => true | .non, .str _ => true | .str _, .non => true
  | .int _, .int _ => true | .bl _, .bl _ => true | .str _, .str _ => true | .byt _, .byt _ => true
  | .int _, .str _ => true | .str _, .int _ => true | .bl _, .str _ => true | .str _, .bl _ => true
  | _, _ => false
def rEq : R2 := fun x y H Q => scal x y = true ∧ Q (.bl (decide (x = y))) H
def rNe : R2 := fun x y H Q => scal x y = true ∧ Q (.bl (!decide (x = y))) H

theorem dec_int {i j : Int} : decide (V.int i = V.int j) = (i == j) := by
  rw [Bool.eq_iff_iff]
  simp
theorem dec_bl {i j : Bool} : decide (V.bl i = V.bl j) = (i == j) := by
  rw [Bool.eq_iff_iff]
  simp
theorem dec_str {i j : Str} : decide (V.str i = V.str j) = (i == j) := by
  rw [Bool.eq_iff_iff]
  simp
theorem dec_byt {i j : Array UInt8} : decide (V.byt i = V.byt j) = (i.toList == j.toList) := by
  rw [Bool.eq_iff_iff]
  cases i
  cases j
  simp

section
variable {X : Cx} {a b c : Expr} {ta tb tc : TE} {pos : Pos}
theorem fin_bl {pins : List (Addr × Obj)} {σ : St} {H : Hp} {s : Shared} {Q : VK} {k k' : Bool} (I : Inv X pins σ H s) (q : Q (.bl k) H) (e : k = k') : EP X pins σ Q (.bool k') s := by
  subst e
  exact ⟨.bl k, H, I, rfl, q⟩
theorem op_eq : OpR X (compareOp .Eq) rEq := by
  intro pins s σ H x y v u Q I rx ry h
  obtain ⟨hs, q⟩ := h
  cases x with
  | non =>
    cases rx
    cases y with
    | non => cases ry; exact PySem.EqNone.eq_none_none (fin_bl I q (by simp))
    | bl j => cases ry; exact PySem.EqNone.eq_none_bool (fin_bl I q (by simp))
    | int j => obtain ⟨t', rfl⟩ := ry; exact PySem.EqNone.eq_none_int (fin_bl I q (by simp))
    | str j => obtain ⟨t', rfl⟩ := ry; exact PySem.EqNone.eq_none_str (fin_bl I q (by simp))
    | _ => exact absurd (show false = true from hs) Bool.false_ne_true
  | bl i =>
    cases rx
    cases y with
    | non => cases ry; exact PySem.EqNone.eq_bool_none (fin_bl I q (by simp))
    | bl j => cases ry; exact eq_bool (fin_bl I q dec_bl)
    | str j => obtain ⟨t', rfl⟩ := ry; exact PySem.EqMixed.eq_bool_str (fin_bl I q (by simp))
    | _ => exact absurd (show false = true from hs) Bool.false_ne_true
  | int i =>
    obtain ⟨t, rfl⟩ := rx
    cases y with
    | non => cases ry; exact PySem.EqNone.eq_int_none (fin_bl I q (by simp))
    | int j => obtain ⟨t', rfl⟩ := ry; exact eq_int (fin_bl I q dec_int)
    | str j => obtain ⟨t', rfl⟩ := ry; exact PySem.EqMixed.eq_int_str (fin_bl I q (by simp))
    | _ => exact absurd (show false = true from hs) Bool.false_ne_true
  | str i =>
    obtain ⟨t, rfl⟩ := rx
    cases y with
    | non => cases ry; exact PySem.EqNone.eq_str_none (fin_bl I q (by simp))
    | bl j => cases ry; exact PySem.EqMixed.eq_str_bool (fin_bl I q (by simp))
    | int j => obtain ⟨t', rfl⟩ := ry; exact PySem.EqMixed.eq_str_int (fin_bl I q (by simp))
    | str j => obtain ⟨t', rfl⟩ := ry; exact eq_str (fin_bl I q dec_str)
    | _ => exact absurd (show false = true from hs) Bool.false_ne_true
  | byt i =>
    obtain ⟨t, rfl⟩ := rx
    cases y with
    | byt j => obtain ⟨t', rfl⟩ := ry; exact PySem.W.eq_bytes (fin_bl I q dec_byt)
    | _ => exact absurd (show false = true from hs) Bool.false_ne_true
  | _ => cases y <;> exact absurd (show false = true from hs) Bool.false_ne_true
theorem op_ne : OpR X (compareOp .NotEq) rNe := by
  intro pins s σ H x y v u Q I rx ry h
  obtain ⟨hs, q⟩ := h
  cases x with
  | non =>
    cases rx
    cases y with
    | non => cases ry; exact PySem.EqNone.ne_none_none (fin_bl I q (by simp))
    | bl j => cases ry; exact PySem.EqNone.ne_none_bool (fin_bl I q (by simp))
    | int j => obtain ⟨t', rfl⟩ := ry; exact PySem.EqNone.ne_none_int (fin_bl I q (by simp))
    | str j => obtain ⟨t', rfl⟩ := ry; exact PySem.EqNone.ne_none_str (fin_bl I q (by simp))
    | _ => exact absurd (show false = true from hs) Bool.false_ne_true
  | bl i =>
    cases rx
    cases y with
    | non => cases ry; exact PySem.EqNone.ne_bool_none (fin_bl I q (by simp))
    | bl j => cases ry; exact ne_bool (fin_bl I q (congrArg not dec_bl))
    | str j => obtain ⟨t', rfl⟩ := ry; exact PySem.EqMixed.ne_bool_str (fin_bl I q (by simp))
    | _ => exact absurd (show false = true from hs) Bool.false_ne_true
  | int i =>
    obtain ⟨t, rfl⟩ := rx
    cases y with
    | non => cases ry; exact PySem.EqNone.ne_int_none (fin_bl I q (by simp))
    | int j => obtain ⟨t', rfl⟩ := ry; exact ne_int (fin_bl I q (congrArg not dec_int))
    | str j => obtain ⟨t', rfl⟩ := ry; exact PySem.EqMixed.ne_int_str (fin_bl I q (by simp))
    | _ => exact absurd (show false = true from hs) Bool.false_ne_true
  | str i =>
    obtain ⟨t, rfl⟩ := rx
    cases y with
    | non => cases ry; exact PySem.EqNone.ne_str_none (fin_bl I q (by simp))
    | bl j => cases ry; exact PySem.EqMixed.ne_str_bool (fin_bl I q (by simp))
    | int j => obtain ⟨t', rfl⟩ := ry; exact PySem.EqMixed.ne_str_int (fin_bl I q (by simp))
    | str j => obtain ⟨t', rfl⟩ := ry; exact ne_str (fin_bl I q (congrArg not dec_str))
    | _ => exact absurd (show false = true from hs) Bool.false_ne_true
  | byt i =>
    obtain ⟨t, rfl⟩ := rx
    cases y with
    | byt j => obtain ⟨t', rfl⟩ := ry; exact PySem.W.ne_bytes (fin_bl I q (congrArg not dec_byt))
    | _ => exact absurd (show false = true from hs) Bool.false_ne_true
  | _ => cases y <;> exact absurd (show false = true from hs) Bool.false_ne_true

theorem op_lt : OpR X (compareOp .Lt) (rI0 fun i j => .bl (decide (i < j))) := opB0 fun _ _ _ _ _ _ _ q => lt_int q
theorem op_gt : OpR X (compareOp .Gt) (rI0 fun i j => .bl (decide (j < i))) := opB0 fun _ _ _ _ _ _ _ q => gt_int q
theorem OpR.or {f : Value → Value → Sem Value} {r r' : R2} (h : OpR X f r) (h' : OpR X f r') : OpR X f (fun x y H Q => r x y H Q ∨ r' x y H Q) := by
  intro pins s σ H x y v u Q I rx ry q
  rcases q with q | q
  · exact h pins s σ H x y v u Q I rx ry q
  · exact h' pins s σ H x y v u Q I rx ry q

theorem nomark (b : Expr) {op : CmpOp} (h : op ≠ .In := by decide) (h2 : op ≠ .NotIn := by decide) : behindInMarks op b = false := by
  have e1 : (op == CmpOp.In) = false := by cases op <;> first | rfl | exact absurd rfl h
  have e2 : (op == CmpOp.NotIn) = false := by cases op <;> first | rfl | exact absurd rfl h2
  cases b <;> simp [behindInMarks, e1, e2]
theorem pe_cmpR {op : CmpOp} {r : R2} (ho : OpR X (compareOp op) r) (ha : PE X a ta) (hb : PE X b tb) (hm : behindInMarks op b = false) : PE X (.Compare a [op] [b] pos) (tOp r ta tb) := by
  intro pins s σ H Q I h
  exact wpAny_Compare1 (binT ha hb I h fun v u s2 x y H2 I2 rx ry q => ho pins s2 σ H2 x y v u Q I2 rx ry q) hm
theorem line63 : (sizeLine : Nat) < 2 ^ 63 := by rw [sizeLine_eq]; decide
theorem op_add_str : OpR X (binaryOp .Add) (fun x y H Q => ∃ i j, x = .str i ∧ y = .str j ∧ i.length + j.length ≤ sizeLine ∧ Q (.str (i ++ j)) H) := by
  intro pins s σ H x y v u Q I rx ry h
  obtain ⟨i, j, rfl, rfl, hz, q⟩ := h
  obtain ⟨t, rfl⟩ := rx
  obtain ⟨t', rfl⟩ := ry
  exact add_str (fun t' tk => ⟨.str (i ++ j), H, I.tok _, ⟨_, rfl⟩, q⟩) hz
/-! ### scalar builtins, by CallR -/
theorem vals1 {x : V} {us : List Value} (r : Vals [x] us) : ∃ u, us = [u] ∧ RelV x u := by
  cases r with
  | cons r1 r2 => cases r2; exact ⟨_, rfl, r1⟩
theorem vals2 {x y : V} {us : List Value} (r : Vals [x, y] us) : ∃ u w', us = [u, w'] ∧ RelV x u ∧ RelV y w' := by
  cases r with
  | cons r1 r2 =>
    cases r2 with
    | cons r3 r4 => cases r4; exact ⟨_, _, rfl, r1, r3⟩
end
end L2

namespace L2
open PySem PySem.Spec PyProof.Rows

section
variable {prog : Program} {w : World} {A : Around} {E : Value → Shared → Prop} {s : Shared} {K : PySem.W.Frag} {x dx C f : Addr} {mA : Str → Option Value} {name : Str} {v : Value}

end

/-! ### the attributes as a list of pairs -/
def putF (f : Str) (v : V) : List (Str × V) → List (Str × V)
  | [] => [(f, v)]
  | (g, x) :: r => if g = f then (g, v) :: r else (g, x) :: putF f v r
theorem RelO.some_of {v : V} {o : Option Value} (r : RelO (some v) o) : ∃ u, o = some u ∧ RelV v u := by
  cases o with
  | none => exact (show False from r).elim
  | some u => exact ⟨u, rfl, r⟩
section
variable {P : Program} {w : World} {H H' : Hp} {h h' : Heap} {a C dx : Addr} {fs fs' : List (Str × V)}
end

/-! ### what of the text a class must have -/
structure Cls (K : PySem.W.Frag) (C : Addr) : Prop where
  pg : PySem.W.plainGet K C Str.empty = true
  hd : PySem.W.hasDictIn K C = true
  po : PySem.W.plainOver K C = true
  sa : PySem.W.findIn K (.ref C) "__setattr__" = some (some (.builtin "object.__setattr__"))
theorem Cls.get {K : PySem.W.Frag} {C : Addr} (c : Cls K C) (f : Str) : PySem.W.plainGet K C f = true := c.pg
def NoAttr (K : PySem.W.Frag) (C : Addr) (f : Str) : Prop := PySem.W.findIn K (.ref C) f = some none
section
variable {X : Cx} {pins : List (Addr × Obj)} {σ : St} {H : Hp} {s : Shared} {a C dx : Addr} {fs : List (Str × V)} {f : Str} {v : V} {A : Around} {E : Value → Shared → Prop}

theorem Inv.made (I : Inv X pins σ H s) : Inv X pins σ (upd (upd H s.heap.objs.size (.own (s.heap.objs.size + 1))) (s.heap.objs.size + 1) (.ins C s.heap.objs.size []))
    { s with heap := (s.heap.push PySem.W.emptyDict).push (PySem.W.instObj C s.heap.objs.size) } := by
  have e1 : (s.heap.push PySem.W.emptyDict).get? s.heap.objs.size = some PySem.W.emptyDict := Heap.get?_push_size s.heap rfl
  have e2 : ((s.heap.push PySem.W.emptyDict).push (PySem.W.instObj C s.heap.objs.size)).get? (s.heap.objs.size + 1) = some (PySem.W.instObj C s.heap.objs.size) := by
    have := Heap.get?_push_size (s.heap.push PySem.W.emptyDict) (o := PySem.W.instObj C s.heap.objs.size) rfl
    rwa [Heap.size_push] at this
  have e3 : (s.heap.push PySem.W.emptyDict).Ns s.heap.objs.size (fun _ => none) := ⟨PySem.W.emptyDict, #[], _, e1, rfl, (fun e he => absurd he (by simp)), fun _ => rfl⟩
  have I1 := I.laid (a := s.heap.objs.size) (o := .own (s.heap.objs.size + 1)) (h' := s.heap.push PySem.W.emptyDict) (t' := s.toks) (fun b u q => Heap.get?_push_of_some _ q) (Nat.le_refl _) ⟨_, e1⟩
  refine I1.laid (a := s.heap.objs.size + 1) (o := .ins C s.heap.objs.size []) (t' := s.toks) (fun b u q => Heap.get?_push_of_some _ q) (Nat.le_of_eq (Heap.size_push _ _)) ?_
  have ne : s.heap.objs.size ≠ s.heap.objs.size + 1 := Nat.ne_of_lt (Nat.lt_succ_self _)
  refine ⟨by rw [upd_ne ne, upd_same], Nat.zero_le _, ne, e2, fun _ => none, (Heap.Ns1.of_empty e3).at fun o q => Heap.get?_push_of_some _ q, fun _ => True.intro, fun y hy => absurd rfl hy⟩

end

section
variable {X : Cx} {o e value : Expr} {f : Str} {pos pos' tpos : Pos} {ta tv : TE}
end

/-! ### isinstance -/
section
variable {X : Cx} {pins : List (Addr × Obj)} {σ : St} {H : Hp} {s : Shared} {A : Around} {E : Value → Shared → Prop} {Q : Value → Shared → Prop} {c : Value} {b : Bool}
end
end L2

namespace L2
open PySem PySem.Spec PyProof.Rows

/-! ### room -/
structure Room (k : Nat) (A : Around) : Prop where
  hd : A.handled = none
  dp : A.depth + 3 * k + 5 < recursionLimit
  un : A.units + 16 * k + 200 < cLine
theorem Room.mono {j k : Nat} {A : Around} (r : Room k A) (h : j ≤ k) : Room j A := ⟨r.hd, by have := r.dp; omega, by have := r.un; omega⟩
theorem Room.deeper {k : Nat} {A : Around} (r : Room (k + 1) A) (env : Env) : Room k (A.deeper env) :=
  ⟨r.hd, by have := r.dp; show A.depth + 1 + 3 * k + 5 < _; omega, by have := r.un; show A.units + 3 + 16 * k + 200 < _; omega⟩
theorem Room.depth {k : Nat} {A : Around} (r : Room k A) : A.depth < recursionLimit := by have := r.dp; omega
theorem Room.units {k : Nat} {A : Around} (r : Room k A) : A.units + 64 < cLine := by have := r.un; omega
/-! ### argument lists and displays -/
def tNil : TA := fun _ H Q => Q [] H
def tCons (ta : TE) (tr : TA) : TA := fun σ H Q => ta σ H fun x H1 => tr σ H1 fun xs H2 => Q (x :: xs) H2
section
variable {X : Cx} {e : Expr} {es : List Expr} {te : TE} {t : TA} {pos : Pos}
theorem pa_nil : PA X [] tNil := fun _ _ _ _ H Q I h => Calls.spliced_nil ⟨[], H, I, .nil, h⟩
theorem pa_cons (ha : PE X e te) (hr : PA X es t) (hs : starEach (e :: es) X.env = (false, eval e X.env) :: starEach es X.env := by rfl) : PA X (e :: es) (tCons te t) := by
  intro pos pins s σ H Q I h
  rw [hs]
  show wpAny _ _ (spliced ((false, eval e X.env) :: backTo pos (starEach es X.env))) _ _ s
  refine Calls.spliced_cons (thn (ha pins s σ H _ I h) fun u s1 ⟨x, H1, I1, r1, q1⟩ => ?_)
  exact thn (hr pos pins s1 σ H1 _ I1 q1) fun us s2 ⟨xs, H2, I2, r2, q2⟩ => ⟨x :: xs, H2, I2, .cons r1 r2, q2⟩

def tTup (t : TA) : TE := fun σ H Q => t σ H fun xs H1 => xs.length ≤ sizeLine ∧ ∀ p, H1 p = none → Q (.ref p) (upd H1 p (.tup xs))
def tLst (t : TA) : TE := fun σ H Q => t σ H fun xs H1 => xs.length ≤ sizeLine ∧ ∀ p, H1 p = none → Q (.ref p) (upd H1 p (.lst xs))
theorem pe_lst (h : PA X es t) : PE X (.List es pos) (tLst t) := by
  intro pins s σ H Q I hq
  refine wpAny_List_spliced (thn (h pos pins s σ H _ I hq) fun us s1 ⟨xs, H1, I1, r, z, q⟩ => ⟨by rw [← r.length]; exact z, ?_⟩)
  have hf : H1 s1.heap.objs.size = none := I1.hok.fresh (Nat.le_refl _)
  refine ⟨.ref s1.heap.objs.size, upd H1 s1.heap.objs.size (.lst xs), I1.laid (t' := s1.toks) (fun b u e => Heap.get?_push_of_some _ e) (Nat.le_refl _) ?_, rfl, q _ hf⟩
  exact ⟨z, us, 0, r, Heap.get?_push_size _ rfl⟩
end

/-! ### what a def promises -/
/-- a def's promise: the bound arguments in the parameters' order, the heap, the wanted end, the wanted exception -/
abbrev Sp := List V → Hp → VK → XK → Prop
abbrev CXT := List Env → Hp → Shared → XK → Value → Shared → Prop

structure Env0 (P : Program) (w : World) (K : PySem.W.Frag) (mg : Str → Option Value) (base : Heap) (A : Around) (outer : List Env) (s : Shared) (H : Hp) : Prop where
  frames : A.frames = some outer
  mod : Mod K mg base
  bs : ∀ b o, base.get? b = some o → s.heap.get? b = some o ∧ H b = none
  bsz : base.objs.size ≤ s.heap.objs.size
  funs : s.heap.FunFrames base outer
  frf : ∀ b ∈ frs outer, H b = none
  hok : HOk P w H s.heap
  bare : AllBare s.gens
def CE (outer : List Env) (P : Program) (w : World) (H : Hp) (s : Shared) (Q : VK) (u : Value) (s' : Shared) : Prop :=
  ∃ v H', s'.os = s.os ∧ AllBare s'.gens ∧ Un (frs outer) [] H H' s.heap s'.heap ∧ HOk P w H' s'.heap ∧ RelV v u ∧ Q v H'
def CR (CX : CXT) (outer : List Env) (P : Program) (w : World) (H : Hp) (s : Shared) (Q : VK) (E : XK) (r : Result) (s' : Shared) : Prop :=
  match r with
  | .ok (.ret u) => CE outer P w H s Q u s'
  | .ok _ => False
  | .error e => CX outer H s E e s'
structure FnOk (P : Program) (w : World) (K : PySem.W.Frag) (mg : Str → Option Value) (base : Heap) (CX : CXT) (k : Nat) (f : Addr) (fd : FuncData) (ps : List Str) (sp : Sp) : Prop where
  len : ∀ vs H Q E, sp vs H Q E → vs.length = ps.length
  run : ∀ (A : Around) (outer : List Env) (s : Shared) (H : Hp) (args : Args) (us : List Value) (vs : List V) (Q : VK) (E : XK), Room k A → Env0 P w K mg base A outer s H → BindsTo s fd args (ps.zip us) → Vals vs us → sp vs H Q E →
    codeAny (model P w) A (.call (.ref f) args) (CR CX outer P w H s Q E) s
theorem FnOk.mono {P : Program} {w : World} {K : PySem.W.Frag} {mg : Str → Option Value} {base : Heap} {CX : CXT} {j k : Nat} {f : Addr} {fd : FuncData} {ps : List Str} {sp : Sp} (F : FnOk P w K mg base CX j f fd ps sp) (h : j ≤ k) :
    FnOk P w K mg base CX k f fd ps sp := ⟨F.len, fun A outer s H args us vs Q E hr => F.run A outer s H args us vs Q E (hr.mono h)⟩
theorem FnOk.imp {P : Program} {w : World} {K : PySem.W.Frag} {mg : Str → Option Value} {base : Heap} {CX : CXT} {k : Nat} {f : Addr} {fd : FuncData} {ps : List Str} {sp sp' : Sp} (F : FnOk P w K mg base CX k f fd ps sp)
    (h : ∀ vs H Q E, sp' vs H Q E → sp vs H Q E) : FnOk P w K mg base CX k f fd ps sp' :=
  ⟨fun vs H Q E q => F.len vs H Q E (h _ _ _ _ q), fun A outer s H args us vs Q E hr he hb hv hs => F.run A outer s H args us vs Q E hr he hb hv (h _ _ _ _ hs)⟩

section
variable {X : Cx} {pins : List (Addr × Obj)} {σ : St} {H : Hp} {s s' : Shared}
theorem Inv.env0 (I : Inv X pins σ H s) : Env0 X.prog X.w X.K X.mg X.base X.A X.stack s H :=
  ⟨I.ok.frames, I.ok.mod, I.bs, Nat.le_trans I.ok.bsz I.sz, I.stack, I.stkFree, I.hok, I.bare⟩
theorem Inv.after {Q : VK} {u : Value} (I : Inv X pins σ H s) (h : CE X.stack X.prog X.w H s Q u s') : EP X pins σ Q u s' := by
  obtain ⟨v, H', os, bare, un, hok, r, q⟩ := h
  obtain ⟨hh, g, d, t, os'⟩ := s'
  obtain rfl : os' = s.os := os
  exact ⟨v, H', I.call (h' := hh) (g' := g) (d' := d) (t' := t) (ch := []) un hok bare (fun b z => absurd z (by simp)), r, q⟩
end

def Binds (K : PySem.W.Frag) (fd : FuncData) (ps : List Str) (ds : List Value) : Prop :=
  ∀ (s : Shared) (us : List Value), K.In s.heap → (us ++ ds).length = ps.length → BindsTo s fd ⟨us, []⟩ (ps.zip (us ++ ds))
theorem Binds.all {K : PySem.W.Frag} {fd : FuncData} {ps : List Str} (h : ∀ us : List Value, us.length = ps.length → bindArgs fd ⟨us, []⟩ = pure (ps.zip us)) : Binds K fd ps [] := fun s us _ hl => by
  rw [List.append_nil] at hl ⊢
  exact .of_eq (h us hl)

section
variable {X : Cx} {CX : CXT} {k : Nat} {f C : Addr} {fd : FuncData} {ps : List Str} {sp : Sp} {dvs : List V} {ds : List Value} {E : XK} {x m : Str} {p pos apos : Pos} {e o : Expr} {es : List Expr} {ta : TE} {t : TA}

end

section
variable {X : Cx} {CX : CXT} {k : Nat} {f C : Addr} {fd : FuncData} {ps ks : List Str} {sp : Sp} {E : XK} {x m : Str} {p pos apos kpos : Pos} {e o : Expr} {es : List Expr} {kws : List Keyword} {te ta : TE} {t tk : TA} {nm : Option Str}
variable {g : List Value → List Value → List Value} {gV : List V → List V → List V}
end

/-! ### a def's body keeps its promise -/
/-- names: the parameters first -/
structure FnScope (N P : List Str) (sc : Scope) : Prop where
  kind : sc.kind = .function
  co : sc.isCoroutine = false
  gen : sc.isGenerator = false
  nd : N.Nodup
  pre : N.take P.length = P
  par : ∀ x ∈ P, sc.names.lookup x = some .local ∨ sc.names.lookup x = some .cell
  nofree : ∀ y ∈ sc.names, y.2 ≠ .free

theorem bindL_out {kindOf : Str → Option NameKind} {x : Str} : ∀ {binds : List (Str × Value)} {m : Str → Option Value}, (∀ v, (x, v) ∉ binds) → bindL kindOf binds m x = m x
  | [], _, _ => rfl
  | (n, v) :: r, m, h => by
    unfold bindL
    rw [bindL_out fun w hw => h w (List.mem_cons_of_mem _ hw)]
    split
    · have : x ≠ n := by rintro rfl; exact h v List.mem_cons_self
      simp [this]
    · rfl
theorem bindC_out {kindOf : Str → Option NameKind} {x : Str} : ∀ {binds : List (Str × Value)} {m : Str → Option Value}, (∀ v, (x, v) ∉ binds) → bindC kindOf binds m x = m x
  | [], _, _ => rfl
  | (n, v) :: r, m, h => by
    unfold bindC
    rw [bindC_out fun w hw => h w (List.mem_cons_of_mem _ hw)]
    split
    · rfl
    · have : x ≠ n := by rintro rfl; exact h v List.mem_cons_self
      simp [this]
theorem bindL_get {kindOf : Str → Option NameKind} {x : Str} {v : Value} : ∀ {P : List Str} {vs : List Value} {i : Nat} {m : Str → Option Value}, P.Nodup → P[i]? = some x → vs[i]? = some v → kindOf x = some .local →
    bindL kindOf (P.zip vs) m x = some v
  | [], _, _, _, _, h, _, _ => by simp at h
  | _ :: _, [], _, _, _, _, h, _ => by simp at h
  | p :: P, w :: vs, 0, m, nd, h1, h2, hk => by
    simp at h1 h2; subst h1; subst h2
    show bindL kindOf ((p, w) :: P.zip vs) m p = _
    unfold bindL
    rw [bindL_out fun v hv => (List.nodup_cons.mp nd).1 (List.of_mem_zip hv).1, if_pos hk]
    simp
  | p :: P, w :: vs, i + 1, m, nd, h1, h2, hk => by
    show bindL kindOf ((p, w) :: P.zip vs) m x = _
    unfold bindL
    exact bindL_get (i := i) (List.nodup_cons.mp nd).2 (by simpa using h1) (by simpa using h2) hk
theorem bindC_get {kindOf : Str → Option NameKind} {x : Str} {v : Value} : ∀ {P : List Str} {vs : List Value} {i : Nat} {m : Str → Option Value}, P.Nodup → P[i]? = some x → vs[i]? = some v → kindOf x ≠ some .local →
    bindC kindOf (P.zip vs) m x = some v
  | [], _, _, _, _, h, _, _ => by simp at h
  | _ :: _, [], _, _, _, _, h, _ => by simp at h
  | p :: P, w :: vs, 0, m, nd, h1, h2, hk => by
    simp at h1 h2; subst h1; subst h2
    show bindC kindOf ((p, w) :: P.zip vs) m p = _
    unfold bindC
    rw [bindC_out fun v hv => (List.nodup_cons.mp nd).1 (List.of_mem_zip hv).1, if_neg hk]
    simp
  | p :: P, w :: vs, i + 1, m, nd, h1, h2, hk => by
    show bindC kindOf ((p, w) :: P.zip vs) m x = _
    unfold bindC
    exact bindC_get (i := i) (List.nodup_cons.mp nd).2 (by simpa using h1) (by simpa using h2) hk

def start (N : List Str) (vs : List V) : St := vs.map some ++ List.replicate (N.length - vs.length) none

def cxOf (CX : CXT) (P : Program) (w : World) (K : PySem.W.Frag) (mg : Str → Option Value) (base : Heap) (N : List Str) (qual : Str) (scope : Scope) (f : Addr) (cd : Value) (A : Around) (outer : List Env) (s : Shared) (H : Hp) (E : XK) : Cx where
  prog := P
  w := w
  K := K
  mg := mg
  base := base
  A := A.deeper (envOfC qual scope s.heap.objs.size f cd)
  N := N
  s₀ := s
  H₀ := H
  env := envOfC qual scope s.heap.objs.size f cd
  outer := outer
  stack := envOfC qual scope s.heap.objs.size f cd :: outer
  ex := []
  calm := true
  fn := fun _ => true
  pn := []
  xe := fun e s' => wpAny (model P w) (A.deeper (envOfC qual scope s.heap.objs.size f cd)) (leaving (envOfC qual scope s.heap.objs.size f cd) e) (fun _ s'' => CX outer H s E e s'') (fun e' s'' => CX outer H s E e' s'') s'

theorem cell_has {sc : Scope} {n : Nat} {x : Str} (h : sc.names.lookup x = some .cell) : ∃ c, (cellsFrom n sc.names []).lookup x = some c := by
  have q := PySem.W.cellsFrom_some sc.names n [] (.inl h)
  exact Option.isSome_iff_exists.mp q

theorem inv_start {CX : CXT} {P : Program} {w : World} {K : PySem.W.Frag} {mg : Str → Option Value} {base : Heap} {N ps : List Str} {qual : Str} {scope : Scope} {f : Addr} {cd : Value} {A : Around} {outer : List Env} {s s1 : Shared} {H : Hp} {E : XK} {us : List Value} {vs : List V}
    (S : FnScope N ps scope) (hd : A.handled = none) (e0 : Env0 P w K mg base A outer s H) (hl : vs.length = ps.length) (r : Vals vs us)
    (x : InCallC s s.heap.objs.size (bindL (envOfC qual scope s.heap.objs.size f cd).kindOf (ps.zip us) fun _ => none) (cellsFrom (s.heap.objs.size + 1) scope.names []) (bindC (envOfC qual scope s.heap.objs.size f cd).kindOf (ps.zip us) fun _ => none) s1) :
    Inv (cxOf CX P w K mg base N qual scope f cd A outer s H E) [] (start N vs) H s1 := by
  have hpl : ps.length ≤ N.length := by have := congrArg List.length S.pre; rw [List.length_take] at this; omega
  obtain ⟨h1, tk, rfl, hk⟩ := x.done
  have noA : ∀ b : Addr, b ∉ (cxOf CX P w K mg base N qual scope f cd A outer s H E).ex := fun b z => absurd (show b ∈ ([] : List Addr) from z) (by simp)
  refine ⟨⟨e0.mod, S.kind, rfl, rfl, Nat.le_refl _, fun y z c h1 h2 => ?_, fun y hy => ?_, fun y c _ h => ?_, fun _ => hd, Around.frames_deeper e0.frames, .inr ⟨rfl, rfl⟩, fun b z => absurd z (noA b), e0.bs, e0.bsz, fun b _ _ => noA b, fun b z => absurd z (noA b), e0.funs, e0.frf⟩,
    rfl, e0.bare, Un.kept hk, ⟨_, x.toInCall.ns, fun i y v h1 h2 h3 => ?_⟩, fun y c h => ⟨_, x.cell y c h⟩, e0.hok.fresh (Nat.le_refl _), fun y c h => ?_, fun p hp => absurd (show p ∈ ([] : List (Addr × Obj)) from hp) (by simp), e0.hok.kept hk, ?_⟩
  · exact name_of_addr x.apart (PySem.mem_of_lookup h1) (PySem.mem_of_lookup h2)
  · have hy : scope.names.lookup y = some .cell ∨ scope.names.lookup y = some .free := hy
    rcases hy with hy | hy
    · exact cell_has hy
    · exact absurd rfl (S.nofree _ (PySem.mem_of_lookup hy))
  · exact Nat.le_of_lt (x.above y c (PySem.mem_of_lookup h))
  · have hi : i < vs.length := by
      unfold start at h2
      by_cases hi : i < vs.length
      · exact hi
      · rw [List.getElem?_append_right (by simpa using hi)] at h2
        rw [List.getElem?_replicate] at h2
        split at h2 <;> cases h2
    have ha : vs[i]? = some v := by
      unfold start at h2
      rw [List.getElem?_append_left (by simpa using hi), List.getElem?_map] at h2
      cases e : vs[i]? with
      | none => rw [e] at h2; cases h2
      | some a => rw [e] at h2; cases h2; rfl
    obtain ⟨u, hu, rv⟩ := r.get ha
    have hp : ps[i]? = some y := by
      rw [← S.pre, List.getElem?_take_of_lt (by omega)]; exact h1
    have ndP : ps.Nodup := by rw [← S.pre]; exact S.nd.sublist (List.take_sublist _ _)
    refine ⟨u, rv, ?_⟩
    rcases S.par y (List.mem_of_getElem? hp) with k | k
    · exact .inl ⟨k, bindL_get ndP hp hu k⟩
    · obtain ⟨c, e⟩ := cell_has (n := s.heap.objs.size + 1) k
      refine .inr ⟨.inl k, c, e, ?_⟩
      have q := x.cell y c e
      rw [bindC_get ndP hp hu (by show scope.names.lookup y ≠ _; rw [k]; decide)] at q
      exact q
  · exact e0.hok.fresh (Nat.le_of_lt (x.above y c (PySem.mem_of_lookup h)))
  · unfold start
    show _ = N.length
    rw [List.length_append, List.length_map, List.length_replicate]
    omega

theorem fn_of {CX : CXT} {P : Program} {w : World} {K : PySem.W.Frag} {mg : Str → Option Value} {base : Heap} {k : Nat} {f : Addr} {name qual : Str} {params : Arguments} {body : List Stmt} {scope : Scope} {dV kV doc pm cdv ct oc : Value} {an od : Option Addr}
    {osl : Array (Option Value)} {N ps : List Str} {sp : Sp} (lk : K.lookup f = some ⟨oc, od, .func (PySem.W.fnOf name qual params body scope dV kV doc pm an cdv ct), osl⟩) (hcd : PySem.W.codeIn K cdv qual = true) (S : FnScope N ps scope)
    (len : ∀ vs H Q E, sp vs H Q E → vs.length = ps.length)
    (hbody : ∀ (A : Around) (outer : List Env) (s : Shared) (H : Hp) (vs : List V) (Q : VK) (E : XK), Room k (A.deeper (envOfC qual scope s.heap.objs.size f cdv)) → sp vs H Q E →
      ∃ t, PSs (cxOf CX P w K mg base N qual scope f cdv A outer s H E) body t ∧ t { nx := fun _ H' => Q .non H', rt := Q } (start N vs) H) :
    FnOk P w K mg base CX (k + 1) f (PySem.W.fnOf name qual params body scope dV kV doc pm an cdv ct) ps sp := by
  refine ⟨len, fun A outer s H args us vs Q E hr e0 hb r hsp => ?_⟩
  have hl := len _ _ _ _ hsp
  have KX : K.In s.heap := e0.mod.kin.keeps fun b o e => (e0.bs b o e).1
  have lim : s.heap.NoLimit := e0.mod.nolimit.keeps fun b o e => (e0.bs b o e).1
  have hkind : ∀ y ∈ ps.zip us, scope.names.lookup y.1 = some .local ∨ (scope.names.lookup y.1 = some .cell ∧ ((cellsFrom (s.heap.objs.size + 1) scope.names []).lookup y.1).isSome = true) := fun ⟨n, v⟩ hy => by
    rcases S.par n (List.of_mem_zip hy).1 with q | q
    · exact .inl q
    · exact .inr ⟨q, PySem.W.cellsFrom_some _ _ _ (.inl q)⟩
  refine codeAny_call_function hr.depth (KX _ _ lk) rfl S.co S.gen rfl (PySem.W.codeRec_of KX hcd) (hb _ _ _ _ ?_)
  refine wpAny_newFunctionEnv_cells S.kind hkind fun env he s1 x => ?_
  subst he
  refine ⟨lim.keeps x.toInCall.keep, codeAny_func ?_⟩
  obtain ⟨t, ht, hq⟩ := hbody A outer s H vs Q E (hr.deeper _) hsp
  have I : Inv (cxOf CX P w K mg base N qual scope f cdv A outer s H E) [] (start N vs) H s1 := inv_start S hr.hd e0 hl r x
  refine wpAny_mono (ht [] s1 (start N vs) H _ I hq) (fun fl s' hs => ?_) fun e s' hs => hs
  have fin : ∀ {σ' : St} {H' : Hp} {v : V} {u : Value}, Inv (cxOf CX P w K mg base N qual scope f cdv A outer s H E) [] σ' H' s' → RelV v u → Q v H' → CE outer P w H s Q u s' :=
    fun {σ' H' v u} J rv q => ⟨v, H', J.os, J.bare, J.base, J.hok, rv, q⟩
  cases fl with
  | ret u =>
    obtain ⟨v, σ', H', J, rv, q⟩ := hs
    exact fin J rv q
  | next =>
    obtain ⟨σ', H', J, q⟩ := hs
    exact fin (v := V.non) (u := Value.none) J rfl q
  | brk =>
    obtain ⟨_, _, _, q⟩ := hs
    exact False.elim q
  | cont =>
    obtain ⟨_, _, _, q⟩ := hs
    exact False.elim q
end L2

namespace L2
open PySem PySem.Spec PyProof.Rows
section
variable {X : Cx} {x : Str} {p pos : Pos} {e : Expr} {es : List Expr} {t : TA} {id T : String} {r : List V → Hp → VK → Prop}

def tCB (r : List V → Hp → VK → Prop) (t : TA) : TE := fun σ H Q => t σ H fun vs H1 => r vs H1 Q
theorem pe_callB (hc : CallR X (.builtin id) r) (hg : Gl X x) (hm : X.mg x = none) (hv : bootBuiltins x = some (.builtin id)) (ha : PA X (e :: es) t) (hn : x ≠ "__name__" := by decide) (hdb : (x == ("__debug__" : Str)) = false := by decide)
    (he : starEach (e :: es) X.env = (false, eval e X.env) :: starEach es X.env := by rfl) (hpl : (backTo pos (starEach es X.env)).any (·.1) = false := by rfl) : PE X (.Call (.Name x p) (e :: es) [] pos) (tCB r t) := by
  intro pins s σ H Q I h
  refine wpAny_Call_Name_kw (ld_blt I hg hm hv ?_ hn hdb)
  exact PyProof.Rows.callWith_builtin1 (thn (ha pos pins s σ H _ I h) fun us s1 ⟨vs, H1, I1, r1, q1⟩ => hc pins s1 σ H1 vs us Q I1 r1 q1) he hpl
end
end L2

namespace HT
open PySem PyProof.Rows

section
open PySem.SeqAt
open PySem.AutoSeq1 (wpAny_loadPart')
open PySem.MeetsSeq PySem.MeetsSeq2 PySem.MeetsSeq3

end

section
variable {prog : Program} {w : World} {A : Around} {E : Value → Shared → Prop} {s : Shared}

/-! ### t[a:b], not the whole -/
/-- a slice's bound as a place among n (d where it is left out) -/
def sIx (n d : Nat) : Option Int → Nat
  | none => d
  | some v => if v < 0 then (v + (n : Int)).toNat else min v.toNat n
theorem sIx_none (n d : Nat) : sIx n d none = d := rfl
theorem sIx_nat (n d k : Nat) : sIx n d (some (k : Int)) = min k n := by
  show (if (k : Int) < 0 then ((k : Int) + (n : Int)).toNat else min (k : Int).toNat n) = min k n
  rw [if_neg (by omega), Int.toNat_natCast]
theorem sIx_le (n d : Nat) (hd : d ≤ n) (o : Option Int) : sIx n d o ≤ n := by
  cases o with
  | none => exact hd
  | some v =>
    show (if v < 0 then (v + (n : Int)).toNat else min v.toNat n) ≤ n
    by_cases hv : v < 0
    · rw [if_pos hv]; omega
    · rw [if_neg hv]; exact Nat.min_le_right _ _
end
end HT

namespace L2
open PySem PySem.Spec PyProof.Rows

/-! ### the parts of a slice -/
abbrev TO := St → Hp → (Option Int → Hp → Prop) → Prop
def PO (X : Cx) (e : Option Expr) (t : TO) : Prop :=
  ∀ (pins : List (Addr × Obj)) (s : Shared) (σ : St) (H : Hp) (Q : Option Int → Hp → Prop), Inv X pins σ H s → t σ H Q →
    wpAny (model X.prog X.w) X.A (evalPart e X.env) (fun u s' => ∃ o H', Inv X pins σ H' s' ∧ IsPart u o ∧ Q o H') X.xe s
def tNoPart : TO := fun _ H Q => Q none H
def tPart (t : TE) : TO := fun σ H Q => t σ H fun x H1 => ∃ i, x = .int i ∧ Q (some i) H1

section
variable {X : Cx} {e : Expr} {te : TE} {lo hi : Option Expr} {tl th : TO} {pos p2 : Pos}

theorem po_none : PO X none tNoPart := by
  intro pins s σ H Q I h
  rw [evalPart_none]
  exact wpAny_pure ⟨none, H, I, .none, h⟩
theorem po_some (h : PE X e te) : PO X (some e) (tPart te) := by
  intro pins s σ H Q I hw
  rw [evalPart_some]
  refine thn (h pins s σ H _ I hw) fun u s1 ⟨x, H1, I1, r1, q1⟩ => ?_
  obtain ⟨i, rfl, q⟩ := q1
  obtain ⟨t, rfl⟩ := r1
  exact ⟨some i, H1, I1, .int i t, q⟩

def SlR (X : Cx) (r : V → Option Int → Option Int → Hp → VK → Prop) : Prop :=
  ∀ (pins : List (Addr × Obj)) (s : Shared) (σ : St) (H : Hp) (x : V) (v vl vu : Value) (lo hi : Option Int) (sl : Addr) (Q : VK), Inv X pins σ H s → RelV x v → s.heap.IsSliceOf sl vl vu .none → IsPart vl lo → IsPart vu hi → r x lo hi H Q →
    ∃ T id, typeLookup (.type T) "__getitem__" = pure (some (.builtin id)) ∧ s.TypeIs v T ∧ wpAny (model X.prog X.w) X.A (getItem v (.ref sl)) (EP X pins σ Q) X.xe s
theorem SlR.or {r r' : V → Option Int → Option Int → Hp → VK → Prop} (h : SlR X r) (h' : SlR X r') : SlR X (fun x lo hi H Q => r x lo hi H Q ∨ r' x lo hi H Q) := by
  intro pins s σ H x v vl vu lo hi sl Q I rx hs pl pu q
  rcases q with q | q
  · exact h pins s σ H x v vl vu lo hi sl Q I rx hs pl pu q
  · exact h' pins s σ H x v vl vu lo hi sl Q I rx hs pl pu q
def tSl (r : V → Option Int → Option Int → Hp → VK → Prop) (te : TE) (tl th : TO) : TE := fun σ H Q => te σ H fun x H1 => tl σ H1 fun l H2 => th σ H2 fun u H3 => r x l u H3 Q
theorem pe_slice {r : V → Option Int → Option Int → Hp → VK → Prop} (hr : SlR X r) (he : PE X e te) (hl : PO X lo tl) (hu : PO X hi th) : PE X (.Subscript e (.Slice lo hi none p2) pos) (tSl r te tl th) := by
  intro pins s σ H Q I h
  refine Subscript_ (thn (he pins s σ H _ I h) fun v s1 ⟨x, H1, I1, r1, q1⟩ => ?_)
  refine wpAny_Slice (thn (hl pins s1 σ H1 _ I1 q1) fun vl s2 ⟨l, H2, I2, pl, q2⟩ => thn (hu pins s2 σ H2 _ I2 q2) fun vu s3 ⟨u, H3, I3, pu, q3⟩ => ?_)
  rw [evalPart_none]
  refine wpAny_pure ?_
  have I4 : Inv X pins σ H3 { s3 with heap := s3.heap.push { cls := .type "slice", data := .fields #[vl, vu, .none] } } := I3.kept (t' := s3.toks) fun b ob q => Heap.get?_push_of_some _ q
  obtain ⟨T, id, hT, ht, hg⟩ := hr pins { s3 with heap := s3.heap.push { cls := .type "slice", data := .fields #[vl, vu, .none] } } σ H3 x v vl vu l u s3.heap.objs.size Q I4 r1 (Heap.IsSliceOf.new ..) pl pu q3
  show wpAny (model X.prog X.w) X.A (subscriptTail e (.Slice lo hi none p2) v (.ref s3.heap.objs.size)) (EP X pins σ Q) X.xe { s3 with heap := s3.heap.push { cls := .type "slice", data := .fields #[vl, vu, .none] } }
  exact tail_any (ops := [.ref s3.heap.objs.size, v]) ht hT hg (by with_unfolding_all rfl)

end
end L2

namespace L2
open PySem PySem.Spec PyProof.Rows

/-! ### places -/
/-- the place that an index of any sign means -/
def ixN (n : Nat) (i : Int) : Option Nat := if 0 ≤ i then (if i < n then some i.toNat else none) else if -(n : Int) ≤ i then some (i + n).toNat else none
def atI {α : Type} (xs : List α) (i : Int) : Option α := (ixN xs.length i).bind fun j => xs[j]?
theorem ixN_seq {n : Nat} {i : Int} {j : Nat} (h : ixN n i = some j) : seqIndex? i n = some j ∧ j < n ∧ -(n : Int) ≤ i ∧ i < n := by
  unfold ixN at h
  by_cases h0 : 0 ≤ i
  · rw [if_pos h0] at h
    by_cases h1 : i < n
    · rw [if_pos h1] at h
      have e : i.toNat = j := Option.some.inj h
      exact ⟨by rw [seqIndex_of h0 h1, e], by omega, by omega, h1⟩
    · rw [if_neg h1] at h; cases h
  · rw [if_neg h0] at h
    by_cases h1 : -(n : Int) ≤ i
    · rw [if_pos h1] at h
      have e : (i + n).toNat = j := Option.some.inj h
      exact ⟨by rw [seqIndex_neg (by omega) h1, e], by omega, h1, by omega⟩
    · rw [if_neg h1] at h; cases h
theorem atI_get {α : Type} {xs : List α} {i : Int} {v : α} (h : atI xs i = some v) : ∃ j, seqIndex? i xs.length = some j ∧ xs[j]? = some v ∧ j < xs.length ∧ -(xs.length : Int) ≤ i ∧ i < xs.length := by
  unfold atI at h
  cases e : ixN xs.length i with
  | none => rw [e] at h; cases h
  | some j =>
    rw [e] at h
    obtain ⟨h1, h2, h3, h4⟩ := ixN_seq e
    exact ⟨j, h1, h, h2, h3, h4⟩
/-! ### what may be subscripted -/
/-- what stands as an index of a plain subscript -/
def PlainIx (b : Expr) : Prop := ∀ o i, subscripted b false o i = operate [o, i] (getItem o i)
def IxR (X : Cx) (r : R2) : Prop :=
  ∀ (value slice : Expr) (pins : List (Addr × Obj)) (s : Shared) (σ : St) (H : Hp) (x y : V) (v u : Value) (Q : VK), Inv X pins σ H s → RelV x v → RelV y u → r x y H Q →
    subscripted slice false v u = operate [v, u] (getItem v u) → wpAny (model X.prog X.w) X.A (subscriptTail value slice v u) (EP X pins σ Q) X.xe s
def MtR (X : Cx) (id : String) (r : V → List V → Hp → VK → Prop) : Prop :=
  ∀ (pins : List (Addr × Obj)) (s : Shared) (σ : St) (H : Hp) (x : V) (xs : List V) (v : Value) (us : List Value) (Q : VK), Inv X pins σ H s → RelV x v → Vals xs us → r x xs H Q →
    wpAny (model X.prog X.w) X.A (call (.builtin id) (v :: us)) (EP X pins σ Q) X.xe s
section
variable {X : Cx} {a b : Expr} {ta tb : TE} {pos : Pos}
theorem IxR.or {r r' : R2} (h : IxR X r) (h' : IxR X r') : IxR X (fun x y H Q => r x y H Q ∨ r' x y H Q) := by
  intro value slice pins s σ H x y v u Q I rx ry q hs
  rcases q with q | q
  · exact h value slice pins s σ H x y v u Q I rx ry q hs
  · exact h' value slice pins s σ H x y v u Q I rx ry q hs
theorem MtR.or {id : String} {r r' : V → List V → Hp → VK → Prop} (h : MtR X id r) (h' : MtR X id r') : MtR X id (fun x xs H Q => r x xs H Q ∨ r' x xs H Q) := by
  intro pins s σ H x xs v us Q I rx rs q
  rcases q with q | q
  · exact h pins s σ H x xs v us Q I rx rs q
  · exact h' pins s σ H x xs v us Q I rx rs q
theorem pe_ix {r : R2} (hr : IxR X r) (ha : PE X a ta) (hb : PE X b tb) (hs : PlainIx b) : PE X (.Subscript a b pos) (tOp r ta tb) := by
  intro pins s σ H Q I h
  exact Subscript_ (binT ha hb I h fun v u s2 x y H2 I2 rx ry q => hr a b pins s2 σ H2 x y v u Q I2 rx ry q (hs _ _))

def rIxL (K : PySem.W.Frag) : R2 := fun x y H Q => ∃ p xs i v, x = .ref p ∧ y = .int i ∧ SqL K H p xs ∧ atI xs i = some v ∧ Q v H
def rIxT (K : PySem.W.Frag) : R2 := fun x y H Q => ∃ p xs i v, x = .ref p ∧ y = .int i ∧ SqT K H p xs ∧ atI xs i = some v ∧ Q v H
def rIxS : R2 := fun x y H Q => ∃ z i c, x = .str z ∧ y = .int i ∧ z.length ≤ sizeLine ∧ atI z.cps.toList i = some c ∧ Q (.str ⟨#[c]⟩) H
theorem ix_list : IxR X (rIxL X.K) := by
  intro value slice pins s σ H x y v u Q I rx ry h hs
  obtain ⟨p, xs, i, z, rfl, rfl, hq, he, q⟩ := h
  cases rx
  obtain ⟨t, rfl⟩ := ry
  obtain ⟨its, r, pl, hz⟩ := I.list hq
  obtain ⟨j, h1, h2, h3, h4, h5⟩ := atI_get he
  obtain ⟨w, ew, rw'⟩ := r.get h2
  have hl := r.length
  have hn := line63
  have fin : EP X pins σ Q w s := ⟨z, H, I, rw', q⟩
  by_cases h0 : 0 ≤ i
  · have hj : i.toNat = j := by
      rw [seqIndex_of h0 h5] at h1
      exact Option.some.inj h1
    exact item_listR pl.isList h0 (by omega) (by rw [hj]; simpa using ew) fin hs
  · have hj : (i + (its.toArray.size : Int)).toNat = j := by
      rw [seqIndex_neg (by omega) h4] at h1
      rw [List.size_toArray, ← hl]
      exact Option.some.inj h1
    exact subscriptTail_builtinR (x := w) pl.isList.typeIs slot_list_getitem.lookup
      (wpAny_getItem_list_neg (Q := fun r s' => r = w ∧ EP X pins σ Q r s') pl.isList (by omega) (by rw [List.size_toArray] <;> omega) (by omega) (by rw [hj]; simpa using ew) ⟨rfl, fin⟩) hs
theorem ix_tup : IxR X (rIxT X.K) := by
  intro value slice pins s σ H x y v u Q I rx ry h hs
  obtain ⟨p, xs, i, z, rfl, rfl, hq, he, q⟩ := h
  cases rx
  obtain ⟨t, rfl⟩ := ry
  obtain ⟨its, r, pl, hz⟩ := I.tuple hq
  obtain ⟨j, h1, h2, h3, h4, h5⟩ := atI_get he
  obtain ⟨w, ew, rw'⟩ := r.get h2
  have hl := r.length
  have hn := line63
  have fin : EP X pins σ Q w s := ⟨z, H, I, rw', q⟩
  exact subscriptTail_builtinR (x := w) pl.typeIs slot_tuple_getitem.lookup
    (getItem_tuple (j := j) (Q := fun r s' => r = w ∧ EP X pins σ Q r s') pl (by omega) (by omega) (by rw [List.size_toArray, ← hl]; exact h1) (by simpa using ew) ⟨rfl, fin⟩) hs
theorem ix_str : IxR X rIxS := by
  intro value slice pins s σ H x y v u Q I rx ry h hs
  obtain ⟨z, i, c, rfl, rfl, hz, he, q⟩ := h
  obtain ⟨t, rfl⟩ := rx
  obtain ⟨t', rfl⟩ := ry
  obtain ⟨j, h1, h2, h3, h4, h5⟩ := atI_get he
  have hl : z.cps.toList.length = z.length := by simp [Str.length]
  rw [hl] at h1 h4 h5
  have hn := line63
  exact tail_any (typeIs_str s z t) slot_str_getitem.lookup (getItem_str (c := c) (by
    have e1 : decide (i < -(2 ^ 63 : Int)) = false := decide_eq_false (by omega)
    have e2 : decide (i ≥ 2 ^ 63) = false := decide_eq_false (by omega)
    rw [e1, e2, Bool.or_false]) (by rw [h1]; simpa using h2) ⟨.str ⟨#[c]⟩, H, I.tok _, ⟨_, rfl⟩, q⟩) hs
theorem Inv.lst {pins : List (Addr × Obj)} {σ : St} {H : Hp} {s : Shared} {p : Addr} {xs : List V} (I : Inv X pins σ H s) (h : H p = some (.lst xs)) :
    ∃ (its : List Value) (n : Nat), Vals xs its ∧ s.heap.get? p = some { cls := .type "list", data := .seq its.toArray n } ∧ xs.length ≤ sizeLine := by
  obtain ⟨z, its, n, r, e⟩ := I.hok p _ h
  exact ⟨its, n, r, e, z⟩
/-! ### slices -/
theorem slice_bounds (lo hi : Option Int) (n : Nat) : (sliceBounds lo hi none n).1 = ((HT.sIx n 0 lo : Nat) : Int) ∧ (sliceBounds lo hi none n).2.1 = ((HT.sIx n n hi : Nat) : Int) ∧ (sliceBounds lo hi none n).2.2 = 1 := by
  refine ⟨?_, ?_, rfl⟩
  · cases lo with
    | none => simp [sliceBounds, HT.sIx]
    | some i =>
      simp only [sliceBounds, HT.sIx, Option.getD_none, show (1 : Int) > 0 by decide, if_true]
      by_cases h : i < 0
      · simp only [h, if_true] <;> omega
      · simp only [h, if_false] <;> omega
  · cases hi with
    | none => simp [sliceBounds, HT.sIx]
    | some i =>
      simp only [sliceBounds, HT.sIx, Option.getD_none, show (1 : Int) > 0 by decide, if_true]
      by_cases h : i < 0
      · simp only [h, if_true] <;> omega
      · simp only [h, if_false] <;> omega
/-! ### in, not in: flat items -/
def flatV : V → Bool
  | .non => true
  | .bl _ => true
  | .int _ => true
  | .str _ => true
  | _ => false
def eqV : V → V → Bool
  | .non, .non => true
  | .bl a, .bl b => a == b
  | .bl a, .int b => (if a then 1 else 0) == b
  | .int a, .bl b => a == (if b then 1 else 0)
  | .int a, .int b => a == b
  | .str a, .str b => a == b
  | _, _ => false
def inV (x : V) (xs : List V) : Bool := xs.any fun y => eqV y x
/-! ### len, list(x), tuple(x) of any list or tuple that is read -/
theorem call_len_seq : CallR X (.builtin "len") (fun xs H Q => ∃ p ys, xs = [.ref p] ∧ (SqL X.K H p ys ∨ SqT X.K H p ys) ∧ Q (.int ys.length) H) := by
  intro pins s σ H xs us Q I r h
  obtain ⟨p, ys, rfl, hq, q⟩ := h
  obtain ⟨u, rfl, rx⟩ := vals1 r
  cases rx
  have hn := line63
  rcases hq with hq | hq
  · obtain ⟨its, r', pl, hz⟩ := I.list hq
    have hlen := r'.length
    exact Calls.call_len_list pl.isList (by simp only [List.size_toArray] <;> omega) ⟨.int ys.length, H, I.tok _, ⟨s.toks + 1, by rw [List.size_toArray, hlen]⟩, q⟩
  · obtain ⟨its, r', pl, hz⟩ := I.tuple hq
    have hlen := r'.length
    exact len_tuple pl (by simp only [List.size_toArray] <;> omega) ⟨.int ys.length, H, I.tok _, ⟨s.toks + 1, by rw [List.size_toArray, hlen]⟩, q⟩
theorem call_len_str : CallR X (.builtin "len") (fun xs H Q => ∃ z, xs = [.str z] ∧ z.length ≤ sizeLine ∧ Q (.int z.length) H) := by
  intro pins s σ H xs us Q I r h
  obtain ⟨z, rfl, hz, q⟩ := h
  obtain ⟨u, rfl, t, rfl⟩ := vals1 r
  have hn := line63
  exact len_str (by omega) ⟨.int z.length, H, I.tok _, ⟨_, rfl⟩, q⟩
theorem CallR.or {f : Value} {r r' : List V → Hp → VK → Prop} (h : CallR X f r) (h' : CallR X f r') : CallR X f (fun xs H Q => r xs H Q ∨ r' xs H Q) := by
  intro pins s σ H xs us Q I rs q
  rcases q with q | q
  · exact h pins s σ H xs us Q I rs q
  · exact h' pins s σ H xs us Q I rs q
/-! ### the call of a builtin's method: o.m(..) -/
/-- the value is of that builtin type -/
def tyV (K : PySem.W.Frag) (T : String) (x : V) (H : Hp) : Prop := match x with
  | .str _ => T = "str"
  | .int _ => T = "int"
  | .ref p => (T = "list" ∧ ∃ xs, SqL K H p xs) ∨ (T = "tuple" ∧ ∃ o, K.lookup p = some o ∧ o.cls = .type "tuple" ∧ o.dict = none) ∨
      (T = "dict" ∧ ((∃ kvs, H p = some (.dK kvs)) ∨ ∃ kvs, H p = some (.dT kvs))) ∨ (T = "set" ∧ ∃ S n, H p = some (.set S n))
  | _ => False
theorem tyV_is {pins : List (Addr × Obj)} {σ : St} {H : Hp} {s : Shared} {T : String} {x : V} {v : Value} (I : Inv X pins σ H s) (r : RelV x v) (ty : tyV X.K T x H) :
    s.TypeIs v T ∧ ∀ a, v = .ref a → ∃ ob, s.heap.get? a = some ob ∧ ob.dict = none := by
  cases x with
  | str z =>
    obtain ⟨t, rfl⟩ := r
    cases (show T = "str" from ty)
    exact ⟨typeIs_str s z t, fun _ e => nomatch e⟩
  | int i =>
    obtain ⟨t, rfl⟩ := r
    cases (show T = "int" from ty)
    exact ⟨typeIs_int s i t, fun _ e => nomatch e⟩
  | ref p =>
    cases r
    rcases ty with ⟨rfl, xs, hq⟩ | ⟨rfl, o, hk, hc, hd⟩ | ⟨rfl, hk⟩ | ⟨rfl, S, n, hk⟩
    · obtain ⟨its, _, pl, _⟩ := I.list hq
      refine ⟨pl.isList.typeIs, fun a e => ?_⟩
      cases e
      obtain ⟨o, n, e, c, hd, _⟩ := pl
      exact ⟨o, e, hd⟩
    · refine ⟨⟨o, I.kIn p o hk, hc⟩, fun a e => ?_⟩
      cases e
      exact ⟨o, I.kIn _ o hk, hd⟩
    · have z : ∃ o, s.heap.get? p = some o ∧ o.ExactDict := by
        rcases hk with ⟨kvs, hk⟩ | ⟨kvs, hk⟩
        · obtain ⟨_, _, _, _, o, _, _, e, ex, _⟩ := I.hok p _ hk
          exact ⟨o, e, ex⟩
        · obtain ⟨_, _, _, _, o, _, _, e, ex, _⟩ := I.hok p _ hk
          exact ⟨o, e, ex⟩
      obtain ⟨o, e, ex⟩ := z
      refine ⟨⟨o, e, ex.1⟩, fun a e2 => ?_⟩
      cases e2
      exact ⟨o, e, ex.2.1⟩
    · obtain ⟨o, _, _, _, e, ex, _⟩ := I.hok p _ hk
      refine ⟨⟨o, e, ex.1⟩, fun a e2 => ?_⟩
      cases e2
      exact ⟨o, e, ex.2.1⟩
  | _ => exact False.elim ty
variable {o e : Expr} {es : List Expr} {to : TE} {t : TA} {name : Str} {apos cpos : Pos} {T id : String} {r : V → List V → Hp → VK → Prop}
/- xs.append(e), list.index on a module's tuple .. are MtR facts of 06m -/
end
end L2

namespace L2
open PySem PySem.Spec PyProof.Rows

def MtM (X : Cx) (id : String) (r : V → List V → Hp → VK → Prop) : Prop :=
  ∀ (pins : List (Addr × Obj)) (s : Shared) (σ : St) (H : Hp) (x : V) (xs : List V) (v : Value) (us : List Value) (Q : VK), Inv X pins σ H s → RelV x v → Vals xs us → r x xs H Q →
    wpAny (model X.prog X.w) X.A (call (.builtin id) (v :: us)) (EP X pins σ Q) X.xe s

/-! ### lists of values -/
theorem Vals.one : ∀ {x : V} {us : List Value}, Vals [x] us → ∃ u, us = [u] ∧ RelV x u
  | _, _, .cons r .nil => ⟨_, rfl, r⟩
theorem Vals.two : ∀ {x y : V} {us : List Value}, Vals [x, y] us → ∃ u v, us = [u, v] ∧ RelV x u ∧ RelV y v
  | _, _, _, .cons r (.cons q .nil) => ⟨_, _, rfl, r, q⟩
theorem Vals.zero : ∀ {us : List Value}, Vals [] us → us = []
  | _, .nil => rfl
theorem Vals.eraseIdx : ∀ {xs : List V} {us : List Value} (i : Nat), Vals xs us → Vals (xs.eraseIdx i) (us.eraseIdx i)
  | _, _, _, .nil => .nil
  | _, _, 0, .cons _ t => t
  | _, _, i + 1, .cons r t => .cons r (Vals.eraseIdx i t)
theorem Vals.reverse {xs : List V} {us : List Value} (h : Vals xs us) : Vals xs.reverse us.reverse := by
  induction h with
  | nil => exact .nil
  | cons r t ih => rw [List.reverse_cons, List.reverse_cons]; exact Vals.append ih (.cons r .nil)
section
variable {X : Cx} {pins : List (Addr × Obj)} {σ : St} {H : Hp} {s : Shared} {l b : Addr} {xs ys zs : List V}

/-! ### the two steps: a tracked list is rewritten, a new list is laid -/
theorem Inv.lset {its its' : List Value} {n : Nat} {f : Array Value → Array Value} {t' : Nat} (I : Inv X pins σ H s) (hH : H l = some (.lst xs))
    (e : s.heap.get? l = some { cls := .type "list", data := .seq its.toArray n }) (hf : f its.toArray = its'.toArray) (hv : Vals ys its') (hz : ys.length ≤ sizeLine) :
    Inv X pins σ (upd H l (.lst ys)) { s with heap := s.heap.update l (Obj.mapSeq f), toks := t' } := by
  have q := PySem.IsL.update e f
  rw [hf] at q
  refine I.write (x := l) (e := l) (by rw [hH]; exact trivial) (.inl rfl) (fun b' u hb hu => (Heap.get?_update_other s.heap (Obj.mapSeq f) (Ne.symm hb)).trans hu) ⟨_, q⟩ ?_
  exact ⟨hz, its', _, hv, q⟩
theorem Inv.lnew {its : List Value} {t' : Nat} (I : Inv X pins σ H s) (hv : Vals ys its) (hz : ys.length ≤ sizeLine) :
    Inv X pins σ (upd H s.heap.objs.size (.lst ys)) { s with heap := s.heap.push { cls := .type "list", data := .seq its.toArray }, toks := t' } :=
  I.laid (fun _ _ q => Heap.get?_push_of_some _ q) (Nat.le_refl _) ⟨hz, its, 0, hv, Heap.get?_push_size _ rfl⟩
theorem Inv.fresh (I : Inv X pins σ H s) : H s.heap.objs.size = none := I.hok.fresh (Nat.le_refl _)
theorem Inv.lstM (I : Inv X pins σ H s) (hH : H l = some (.lst xs)) : xs.length ≤ sizeLine ∧ ∃ (its : List Value) (n : Nat), Vals xs its ∧ xs.length = its.length ∧ s.heap.get? l = some { cls := .type "list", data := .seq its.toArray n } := by
  obtain ⟨z, its, n, r, e⟩ := I.hok l _ hH
  exact ⟨z, its, n, r, r.length, e⟩

end

section
variable {X : Cx}

/-! ### methods -/
def rAppend : V → List V → Hp → VK → Prop := fun x vs H Q => ∃ l xs y, x = .ref l ∧ vs = [y] ∧ H l = some (.lst xs) ∧ xs.length < sizeLine ∧ Q .non (upd H l (.lst (xs ++ [y])))
theorem mt_append : MtM X "list.append" rAppend := by
  intro pins s σ H x vs v us Q I rx rv h
  obtain ⟨l, xs, y, rfl, rfl, hH, hz, q⟩ := h
  cases rx
  obtain ⟨u, rfl, ru⟩ := rv.one
  obtain ⟨z, its, n, r, hl, e⟩ := I.lstM hH
  refine call_meets F.slot_list_append ⟨_, e, rfl⟩ F.entry_list_append (F.args_list_append_2 _ _) (PySem.list_append l its.toArray n u (by rw [List.size_toArray]; omega)) ⟨e, ?_⟩
  refine ⟨.non, _, I.lset (its' := its ++ [u]) hH e (by simp) (r.append (.cons ru .nil)) ?_, rfl, q⟩
  rw [List.length_append, List.length_singleton]
  omega

/-! ### list + list, list += list, list * int -/
def rCat : R2 := fun x y H Q => ∃ l b xs zs, x = .ref l ∧ y = .ref b ∧ H l = some (.lst xs) ∧ H b = some (.lst zs) ∧ xs.length + zs.length ≤ sizeLine ∧ ∀ p, H p = none → Q (.ref p) (upd H p (.lst (xs ++ zs)))
theorem op_cat : OpR X (binaryOp .Add) rCat := by
  intro pins s σ H x y v u Q I rx ry h
  obtain ⟨l, b, xs, zs, rfl, rfl, hH, hB, hz, q⟩ := h
  cases rx
  cases ry
  obtain ⟨z, its, n, r, hl, e⟩ := I.lstM hH
  obtain ⟨z2, its2, n2, r2, hl2, e2⟩ := I.lstM hB
  refine PySem.P.add_list e e2 ?_ (by rw [List.size_toArray, List.size_toArray]; omega)
  have ea : its.toArray ++ its2.toArray = (its ++ its2).toArray := by simp
  rw [ea]
  exact ⟨.ref _, _, I.lnew (t' := s.toks) (r.append r2) (by rw [List.length_append]; omega), rfl, q _ I.fresh⟩
end

/-! ### xs[a:b] = ys -/
section
variable {prog : Program} {w : World} {A : Around} {E : Value → Shared → Prop} {s : Shared}
end

section
variable {X : Cx}
end
end L2

namespace Att
open PySem PySem.W PySem.Calls PyProof.Rows

/-! ### the script -/
theorem ints_of_wellAll {P : Params} {h : Heap} : ∀ (ns : List Int) (vs : List Value), WellAll P h vs (ns.map WData.int) → IntsAre vs ns := by
  intro ns
  induction ns with
  | nil =>
    intro vs w
    rw [List.map_nil] at w
    cases w
    exact .nil
  | cons n ns ih =>
    intro vs w
    rw [List.map_cons] at w
    cases w with
    | cons a b =>
      cases a
      exact .cons _ _ (ih _ b)

theorem script_of {l : OpenLaw} {n : Nat} (hn : l.most = some n) {P : Params} {h : Heap} {args : List WData} {vals : List Value}
    (hpre : l.row.toRowW.claim.pre args = true) (hwl : WellAll P h vals args) :
    ∃ a vs ns, vals = [Value.ref a] ∧ args = [WData.list (ns.map WData.int)] ∧ h.get? a = some { cls := .type "list", data := .seq vs.toArray } ∧ IntsAre vs ns ∧ ns.length ≤ n := by
  have hsh : WShape.hasAll [] args [.list .int] = true := (pre_splitW hpre).1
  have hc : l.pre.holds [] { args := args } = true := (pre_splitW hpre).2
  obtain ⟨d, r, rfl, h1, h2⟩ := hasAllW_cons hsh
  obtain rfl := hasAllW_nil h2
  obtain ⟨xs, rfl, h3⟩ := hasW_list h1
  obtain ⟨ns, rfl⟩ := items_int h3
  have hlen : ns.length ≤ n := by
    unfold OpenLaw.pre at hc
    have h4 : (WTm.not (.lt (.lit (.int (n : Int))) (.len (.arg 0)))).holds [] { args := [.list (ns.map .int)] } = true := by
      have h4 := (holds_andW hc).1
      rw [hn] at h4
      exact h4
    have h5 := condW_of h4 (w_not (w_lt w_lit (w_len_list (w_arg rfl))))
    rw [List.length_map] at h5
    refine Nat.le_of_not_lt fun q => ?_
    have q' : (n : Int) < ((ns.length : Nat) : Int) := by omega
    first
      | (rw [decide_eq_true q'] at h5; exact absurd h5 (by decide))
      | (simp at h5; omega)
  cases hwl with
  | cons w1 w2 =>
    cases w2
    cases w1 with
    | list ho hall => exact ⟨_, _, ns, rfl, rfl, ho, ints_of_wellAll ns _ hall, hlen⟩

theorem post_true (l : OpenLaw) (args : List WData) : l.row.toRowW.claim.post args (.bool true) args = true :=
  postW_of (r := l.row.toRowW) (X := (true == true))
    (show WShape.has [] (.bool true) .bool = true by first | rfl | decide | simp [WShape.has, WShape.arms, WShape.armsAll])
    (show (WTm.eq .res (.lit (.bool true))).value [] { args := args, res := some (.bool true), after := args } = some (.bool (true == true)) from w_eq_bool (w_res rfl) w_lit) rfl

theorem attach_call {l : OpenLaw} {n : Nat} {q : Program} {loose : List Str} {XP : (Str → Option Value) → Heap → Prop} {YP : World → Heap → Prop} {d : DefRec}
    (hn : l.most = some n) (hdf : d.params.defaults = [])
    (call : ∀ (w : World) (s₀ s₁ : Shared) (mg mb : Str → Option Value) (fa : Addr) (o : Obj) (pm cd doc : Value) (a : Addr) (vs : List Value) (ns : List Int),
      Ground q loose [] XP w s₀ mg mb s₁.heap → YP w s₁.heap →
      s₁.heap.get? fa = some o → o.data = .func (docDef d.name d.params d.body d.scope pm cd doc) → s₁.heap.CodeRec cd d.name → mg d.name = some (.ref fa) →
      s₁.heap.get? a = some { cls := .type "list", data := .seq vs.toArray } → IntsAre vs ns → ns.length ≤ n → s₁.gens = #[] →
      codeAny (model l.prog w) callerA (.call (.ref fa) ⟨[.ref a], []⟩) (fun r s' => r = .ok (.ret (.bool true)) ∧ OldK s₁.heap s'.heap ∧ s'.os = s₁.os ∧ AllBare s'.gens) s₁) :
    WalkO q loose XP YP l.row.toRowW d [] (fun f vs => PySem.call f vs) := by
  intro w s₀ s₁ mg mb G Y fa o pm cd doc dV kV ho hd hcd hD hmg hg args vals as hpre hlay hrd hwl hlo
  obtain rfl : dV = .none := Dflts.none hD hdf
  obtain rfl : kV = .none := Dflts.noKw hD
  obtain ⟨a, vs, ns, rfl, rfl, hobj, hints, hlen⟩ := script_of hn hpre hwl
  refine enter_call (codeAny_mono (call w s₀ s₁ mg mb fa o pm cd doc a vs ns G Y ho (fd_plain hd) hcd hmg hobj hints hlen hg) fun r s' hq => ?_)
  obtain ⟨rfl, h2, h3, h4⟩ := hq
  exact ⟨.inl ⟨.bool true, .bool true, [], rfl, fun _ => rfl, .bool true, post_true l _, fun _ => ⟨List.Pairwise.nil, fun _ hm => (nomatch hm)⟩⟩, h2, h3, h4⟩

/-! ### rules over ANY heap (no ledger) from facts about the written part K: the library's own take a ledger (News) for what they write -/
section
variable {prog : Program} {w : World} {A : Around} {E : Value → Shared → Prop} {s : Shared} {K : Frag}

def ledger (h : Heap) (L d : Addr) : List (Addr × Obj) := (List.range h.objs.size).filterMap fun a => if a = L ∨ a = d then none else (h.get? a).map fun o => (a, o)
end
end Att

namespace L2
open PySem PySem.Spec PyProof.Rows

theorem vals_ints : ∀ {vs : List Value} {ns : List Int}, IntsAre vs ns → Vals (ns.map V.int) vs
  | _, _, .nil => .nil
  | _, _, .cons n t h => .cons ⟨t, rfl⟩ (vals_ints h)

def Only (H : Hp) : Prop := ∀ b, H b = none ∨ ∃ o xs, H b = some (.frz o (.lst xs))

theorem law_call {P : Program} {w : World} {K : PySem.W.Frag} {mg mb : Str → Option Value} {CX : CXT} {k : Nat} {fa a : Addr} {fd : FuncData} {x : Str} {sp : Sp} {s₁ : Shared} {vs : List Value} {ns : List Int}
    (KX : K.In s₁.heap) (hns : s₁.heap.Ns mainGlobals mg) (hb : s₁.heap.Ns builtinsNs mb) (hbb : ∀ x : Str, x ≠ "__name__" → mb x = bootBuiltins x) (hlim : s₁.heap.NoLimit) (hg : s₁.gens = #[])
    (ha : s₁.heap.get? a = some { cls := .type "list", data := .seq vs.toArray }) (hi : IntsAre vs ns) (hl : ns.length ≤ sizeLine) (hr : Room k callerA)
    (F : ∀ base : Heap, K.In base → base.Ns mainGlobals mg → FnOk P w K mg base CX k fa fd [x] sp) (hbind : ∀ (s : Shared) (u : Value), BindsTo s fd ⟨[u], []⟩ [(x, u)])
    (hsp : ∀ H : Hp, Only H → SqL K H a (ns.map V.int) → sp [.ref a] H (fun v _ => v = .bl true) fun _ _ _ => False)
    (hCX : ∀ H e s', CX [] H s₁ (fun _ _ _ => False) e s' → False) :
    codeAny (model P w) callerA (.call (.ref fa) ⟨[.ref a], []⟩) (fun r s' => r = .ok (.ret (.bool true)) ∧ OldK s₁.heap s'.heap ∧ s'.os = s₁.os ∧ AllBare s'.gens) s₁ := by
  have rv := vals_ints hi
  have lenV := hi.length
  -- from an abstract heap in which nothing but the script may be tracked
  have core : ∀ H : Hp, Only H → SqL K H a (ns.map V.int) → HOk P w H s₁.heap → (∀ b, H b ≠ none → b = a) → (H a ≠ none → K.lookup a = none) →
      codeAny (model P w) callerA (.call (.ref fa) ⟨[.ref a], []⟩) (fun r s' => r = .ok (.ret (.bool true)) ∧ OldK s₁.heap s'.heap ∧ s'.os = s₁.os ∧ AllBare s'.gens) s₁ := by
    intro H hO hS hok hA hK
    have base_of : ∀ {b : Addr} {o : Obj}, s₁.heap.get? b = some o → H b = none → (hidT s₁.heap H).get? b = some o := fun e n => hidT_get e n
    have noA : ∀ {b : Addr} {o : Obj} {es : Array DictEntry} {ep : Nat}, s₁.heap.get? b = some o → o.data = .dict es ep → H b = none := fun {b o es ep} e d => by
      cases q : H b with
      | none => rfl
      | some u =>
        have e' : b = a := hA b (by rw [q]; simp)
        subst e'
        rw [ha] at e; cases e
        have d' : Data.seq vs.toArray _ = Data.dict es ep := d
        cases d'
    have nsK : ∀ {b : Addr} {m : Str → Option Value}, s₁.heap.Ns b m → (hidT s₁.heap H).Ns b m := fun {b m} ⟨o, es, ep, e, d, r⟩ => ⟨o, es, ep, base_of e (noA e d), d, r⟩
    have hKb : K.In (hidT s₁.heap H) := fun b o e => base_of (KX b o e) (by
      cases q : H b with
      | none => rfl
      | some u =>
        have e' : b = a := hA b (by rw [q]; simp)
        subst e'
        rw [hK (by rw [q]; simp)] at e; cases e)
    have hM : Mod K mg (hidT s₁.heap H) := ⟨hKb, nsK hns, ⟨mb, nsK hb, hbb⟩, let ⟨mc, h1, h2⟩ := hlim; ⟨mc, nsK h1, h2⟩⟩
    have e0 : Env0 P w K mg (hidT s₁.heap H) callerA [] s₁ H := ⟨rfl, hM, fun b o e => of_hidT e, Nat.le_of_eq (hidT_size _ _), trivial, fun b hb => absurd (show b ∈ ([] : List Addr) from hb) (by simp), hok, .of_eq hg⟩
    refine codeAny_mono ((F _ hKb (nsK hns)).run callerA [] s₁ H ⟨[.ref a], []⟩ [.ref a] [.ref a] _ _ hr e0 (hbind s₁ (.ref a)) (.cons rfl .nil) (hsp H hO hS)) fun r s' h => ?_
    cases r with
    | error e => exact (hCX H e s' h).elim
    | ok fl =>
      cases fl with
      | next => exact False.elim h
      | brk => exact False.elim h
      | cont => exact False.elim h
      | ret u =>
        obtain ⟨v, H', os, bare, un, hok', r', q⟩ := h
        have q' : v = .bl true := q
        subst q'
        obtain rfl : u = Value.bool true := r'
        refine ⟨rfl, OldK.of_keep fun b o e => ?_, os, bare⟩
        cases q : H b with
        | none => exact un.keep b o e q (by intro z; exact absurd (show b ∈ ([] : List Addr) from z) (by simp)) (by simp)
        | some u =>
          rcases hO b with z | ⟨ob, xs, z⟩
          · rw [q] at z; cases z
          · have z2 := un.frzs b ob _ z
            obtain ⟨e1, _⟩ := hok b _ z
            obtain ⟨e2, _⟩ := hok' b _ z2
            rw [e] at e1; cases e1
            exact e2
  cases hk : K.lookup a with
  | some o =>
    -- the script is one of the module's own objects
    have e := KX a o hk
    rw [ha] at e
    cases e
    refine core (fun _ => none) (fun _ => .inl rfl) (.inr ⟨_, vs.toArray, _, hk, rfl, rfl, rfl, by rw [List.size_toArray, lenV]; exact hl, by simpa using rv⟩) (fun b u z => by have z' : (none : Option HO) = some u := z; cases z') (fun b z => absurd rfl z) fun z => absurd rfl z
  | none =>
    refine core (fun b => if b = a then some (.frz { cls := .type "list", data := .seq vs.toArray } (.lst (ns.map V.int))) else none) (fun b => ?_) (.inl (.inr ⟨{ cls := .type "list", data := .seq vs.toArray }, if_pos rfl⟩)) (fun b u z => ?_) (fun b z => ?_) fun _ => hk
    · by_cases hb : b = a
      · exact .inr ⟨_, _, if_pos hb⟩
      · exact .inl (if_neg hb)
    · by_cases hb : b = a
      · have z' := (if_pos hb).symm.trans z
        cases z'
        subst hb
        exact ⟨ha, by rw [List.length_map]; exact hl, vs, _, rv, ha⟩
      · have z' := (if_neg hb).symm.trans z
        cases z'
    · by_cases hb : b = a
      · exact hb
      · exact absurd (if_neg hb) z
end L2

namespace L2
open PySem PySem.Spec PyProof.Rows

abbrev KOf {K : PySem.W.Frag} {h : Heap} (_ : K.In h) : PySem.W.Frag := K

theorem walk_of {l : PySem.W.OpenLaw} {n k : Nat} {q : Program} {loose : List Str} {XP : (Str → Option Value) → Heap → Prop} {YP : World → Heap → Prop} {d : DefRec} {K : Params → PySem.W.Frag} {CX : World → CXT} {sp : World → Sp} {x : Str}
    (hn : l.most = some n) (hn2 : n ≤ sizeLine) (hdf : d.params.defaults = []) (hr : Room k callerA)
    (hY : ∀ (w : World) (h : Heap), YP w h → (K w.params).In h)
    (F : ∀ (w : World) (mg : Str → Option Value) (fa : Addr) (h : Heap), (K w.params).In h → h.Ns mainGlobals mg → mg d.name = some (.ref fa) →
      ∃ fd : FuncData, (∀ (s : Shared) (u : Value), BindsTo s fd ⟨[u], []⟩ [(x, u)]) ∧
        ∀ base : Heap, (K w.params).In base → base.Ns mainGlobals mg → FnOk l.prog w (K w.params) mg base (CX w) k fa fd [x] (sp w))
    (hsp : ∀ (w : World) (H : Hp) (a : Addr) (ns : List Int), ns.length ≤ n → Only H → SqL (K w.params) H a (ns.map V.int) → sp w [.ref a] H (fun v _ => v = .bl true) fun _ _ _ => False)
    (hCX : ∀ (w : World) (H : Hp) (s : Shared) (e : Value) (s' : Shared), CX w [] H s (fun _ _ _ => False) e s' → False) :
    PySem.W.WalkO q loose XP YP l.row.toRowW d [] (fun f vs => PySem.call f vs) := by
  refine Att.attach_call hn hdf fun w s₀ s₁ mg mb fa o pm cd doc a vs ns G Y ho hd hcd hmg hobj hints hlen hg => ?_
  have KX := hY w _ Y
  obtain ⟨fd, hb, hF⟩ := F w mg fa _ KX G.T.g hmg
  exact law_call KX G.T.g G.T.b G.T.builtins G.T.nolimit hg hobj hints (Nat.le_trans hlen hn2) hr hF hb (fun H hO hS => hsp w H a ns hlen hO hS) fun H e s' => hCX w H s₁ e s'
end L2

/- THE LAST THEOREM (shape; LID, My.* are yours):
   My.Adr: a structure of the addresses that your layer names (classes, functions); My.Txt K t: a structure (Prop) of the equations over K;
   My.txt_mk : {K} {implicit addresses ..} (e1 : nsIn K mainGlobals "law" = some (some (.ref f))) (e2 : K.lookup f = some ⟨oc, od, .func (fnOf "law" "law" params body scope dV kV doc pm an cdv ct), sl⟩) (e3 : codeIn K cdv "law" = true) .. : ∃ t, My.Txt K t

set_option maxRecDepth 100000 in
set_option maxHeartbeats 0 in
theorem PySem.Challenge.cw_LID_holds : PySem.Challenge.rw_LID.Holds := by
  w_on; o_law; k_head; (case hw => w_witness2)
  k_fill
  refine L2.walk_of (l := PySem.Challenge.rw_LID) (n := 63) (k := 40) (x := "script") (CX := fun w => ..) (sp := fun _ => My.sp_law) rfl (by decide) rfl ⟨rfl, by decide, by decide⟩ (fun w h Y => PySem.W.kIn_of Y) ?F ?S ?C
  case F =>
    intro w mg fa h KX G hmg
    have T : ∃ t, My.Txt (L2.KOf KX) t := by
      dsimp only [L2.KOf]                          -- K must stand as «<heap const> w.params» for k_is
      refine' My.txt_mk ?e1 ?e2 ?e3 ..
      (case e1 => PySem.W.k_is)                    -- in the order: a name -> its address -> its object -> its parts
      (case e2 => PySem.W.k_is)
      ..
    obtain ⟨t, T⟩ := T
    have e0 := hmg.symm.trans (PySem.W.mg_of KX G T.law)
    cases e0                                       -- fa is the law's own address
    exact ⟨_, fun s u => .of_eq rfl, fun base kb nb => My.law_fn T kb nb⟩     -- if «.of_eq rfl» comes too early: refine' ⟨_, ?b, fun base kb nb => My.law_fn T kb nb⟩; exact fun s u => .of_eq rfl
  case S => exact fun w H a ns hl hO hS => ..
  case C => exact ..
(the tactic k_is has no namespace: write k_is) -/

/-! SHORT WORDS over the layer: a def of the text, its body, what a loop and a test want. -/
namespace L2
open PySem PySem.Spec PyProof.Rows

def defArgs (s : Stmt) : Arguments := match s with
  | .FunctionDef _ a _ _ _ _ _ _ _ _ => a
  | _ => { posonlyargs := [], args := [], vararg := none, kwonlyargs := [], kw_defaults := [], kwarg := none, defaults := [] }
def defBody (s : Stmt) : List Stmt := match s with
  | .FunctionDef _ _ b _ _ _ _ _ _ _ => b
  | _ => []
def defScope (s : Stmt) : Scope := match s with
  | .FunctionDef _ _ _ _ _ _ sc _ _ _ => sc
  | _ => { kind := .function, names := [], isGenerator := false, isCoroutine := false }

/-! ### no exception leaves a def -/
abbrev CX0 : CXT := fun _ _ _ _ _ _ => False
/-! ### a def (or method) of the text as it stands behind the top -/
structure Fun (K : PySem.W.Frag) (x qual : Str) (st : Stmt) (f : Addr) (fd : FuncData) : Prop where
  ex : ∃ (oc : Value) (od : Option Addr) (kV doc pm : Value) (an : Option Addr) (cdv ct : Value) (osl : Array (Option Value)),
    fd = PySem.W.fnOf x qual (defArgs st) (defBody st) (defScope st) .none kV doc pm an cdv ct ∧ K.lookup f = some ⟨oc, od, .func fd, osl⟩ ∧ PySem.W.codeIn K cdv qual = true
  kp : PySem.W.keepIn K (.ref f) = true
section
variable {P : Program} {w : World} {K : PySem.W.Frag} {mg : Str → Option Value} {base : Heap}
theorem Fun.ok {x qual : Str} {st : Stmt} {f : Addr} {fd : FuncData} {N ps : List Str} {k : Nat} {sp : Sp} (F : Fun K x qual st f fd) (S : FnScope N ps (defScope st)) (len : ∀ vs H Q E, sp vs H Q E → vs.length = ps.length)
    (hbody : ∀ (cdv : Value) (A : Around) (outer : List Env) (s : Shared) (H : Hp) (vs : List V) (Q : VK) (E : XK), Room k (A.deeper (envOfC qual (defScope st) s.heap.objs.size f cdv)) → sp vs H Q E →
      ∃ t, PSs (cxOf CX0 P w K mg base N qual (defScope st) f cdv A outer s H E).nox (defBody st) t ∧ t { nx := fun _ H' => Q .non H', rt := Q } (start N vs) H) : FnOk P w K mg base CX0 (k + 1) f fd ps sp := by
  obtain ⟨oc, od, kV, doc, pm, an, cdv, ct, osl, rfl, lk, hcd⟩ := F.ex
  refine fn_of lk hcd S len fun A outer s H vs Q E hr hsp => ?_
  obtain ⟨t, h, q⟩ := hbody cdv A outer s H vs Q E hr hsp
  exact ⟨t, h.nox, q⟩
theorem Fun.binds {x qual : Str} {st : Stmt} {f : Addr} {fd : FuncData} {ps : List Str} (F : Fun K x qual st f fd)
    (h : ∀ (kV doc pm : Value) (an : Option Addr) (cdv ct : Value) (us : List Value), us.length = ps.length → bindArgs (PySem.W.fnOf x qual (defArgs st) (defBody st) (defScope st) .none kV doc pm an cdv ct) ⟨us, []⟩ = pure (ps.zip us)) : Binds K fd ps [] := by
  obtain ⟨oc, od, kV, doc, pm, an, cdv, ct, osl, rfl, lk, hcd⟩ := F.ex
  exact .all (h kV doc pm an cdv ct)
theorem fun_mk {x qual : Str} {st : Stmt} {f : Addr} {oc : Value} {od an : Option Addr} {osl : Array (Option Value)} {kV doc pm cdv ct : Value} (l : K.lookup f = some ⟨oc, od, .func (PySem.W.fnOf x qual (defArgs st) (defBody st) (defScope st) .none kV doc pm an cdv ct), osl⟩)
    (c : PySem.W.codeIn K cdv qual = true) (k : PySem.W.keepIn K (.ref f) = true) : Fun K x qual st f (PySem.W.fnOf x qual (defArgs st) (defBody st) (defScope st) .none kV doc pm an cdv ct) := ⟨⟨oc, od, kV, doc, pm, an, cdv, ct, osl, rfl, l, c⟩, k⟩
end
/-! ### expressions in short: the name that stands in the i-th slot -/
section
variable {X : Cx}
end

/-! ### heaps -/
/-- all that was tracked is as it was -/
def Same (H H' : Hp) : Prop := ∀ b o, H b = some o → H' b = some o
theorem Same.refl (H : Hp) : Same H H := fun _ _ h => h
theorem Same.trans {H H1 H2 : Hp} (a : Same H H1) (b : Same H1 H2) : Same H H2 := fun c o h => b c o (a c o h)
theorem Same.free {H H' : Hp} (e : Same H H') {l : Addr} (h : H' l = Option.none) : H l = Option.none := by
  cases q : H l with
  | none => rfl
  | some o =>
    rw [e l o q] at h
    cases h
theorem Same.seq {K : PySem.W.Frag} {H H' : Hp} {a : Addr} {xs : List V} (e : Same H H') (h : SqL K H a xs) : SqL K H' a xs := by
  rcases h with (h | ⟨o, h⟩) | h
  · exact .inl (.inl (e _ _ h))
  · exact .inl (.inr ⟨o, e _ _ h⟩)
  · exact .inr h

end L2

set_option Elab.async false
set_option linter.all false
set_option maxRecDepth 100000
-- CHANGE: your row's module here, as the last of these rows
set_option Elab.async false
set_option linter.all false
set_option maxRecDepth 100000
/-! THE HAND LAYER, for ints, bools, texts, own classes, DICTS (int and text keys), calls, loops. Paste it whole ahead of your own text; what your proof does not reach may be deleted. -/
namespace L2
open PySem PySem.Spec PyProof.Rows

end L2

namespace L2
open PySem PySem.Spec PyProof.Rows

section
variable (P : Program) (w : World)
end

section
variable {P : Program} {w : World} {H H' : Hp} {h h' : Heap} {a : Addr} {o : HO}
end

section
variable {P : Program} {w : World} {H : Hp} {h h' : Heap} {x e : Addr} {o' : HO}
end

/-! ### kept unless tracked; of the frames at fs (the callers') the slots may change (an exception that passes writes there); of the records at ex (iterators) nothing is said -/
section
variable {fs fs' ex ex' : List Addr} {H H1 H2 : Hp} {h h1 h2 h' : Heap} {a x e : Addr} {o : HO}
end

/-! ### the heap without what is tracked -/
/-! ### OpenK's ledger, filled with every new object but one -/
end L2

namespace L2
open PySem PySem.Spec PyProof.Rows

section
variable {X : Cx} {pins : List (Addr × Obj)} {σ : List (Option V)} {H H' : Hp} {s : Shared} {h' : Heap}

end

/-! ### the judgements -/
end L2

namespace L2
open PySem PySem.Spec PyProof.Rows
section
variable {X : Cx}

/-! ### names and constants -/
/-! ### arithmetic -/
variable {a b : Expr} {ta tb : TE} {pos : Pos}
/-! ### comparisons -/
/-! ### and, or, not -/
variable {tA tB' : TT} {rest : List Expr}
end
end L2

namespace L2
open PySem PySem.Spec PyProof.Rows

/-! ### a list, a tuple that is read: tracked, frozen, or an object of the module -/
section
variable {X : Cx} {pins : List (Addr × Obj)} {σ : St} {H : Hp} {s : Shared} {a : Addr} {xs ys : List V}
end

/-! ### another wish about exceptions -/
section
variable {X : Cx} {pins : List (Addr × Obj)} {σ : St} {H : Hp} {s : Shared} {E : Value → Shared → Prop}
end

/-! ### blocks and small statements -/
section
variable {X : Cx} {st : Stmt} {rest : List Stmt} {t u : TS} {e : Expr} {te : TE} {pos : Pos}
end

/-! ### targets -/
section
variable {X : Cx} {pos : Pos}
end

/-! ### while -/
section
variable {X : Cx} {pos : Pos}
end

/-! ### what a loop or a comprehension walks -/
end L2

namespace L2
open PySem PySem.Spec PyProof.Rows
section
variable {X : Cx} {tg : Expr}
/-! ### for -/
end

/-! ### the forms one uses -/
end L2

namespace L2
open PySem PySem.Spec PyProof.Rows

section
variable {X : Cx} {a b c : Expr} {ta tb tc : TE} {pos : Pos}

/-! ### ints -/
/-! ### bools among ints: n += (a < b) -/
end

/-! ### comparisons -/
section
variable {X : Cx} {a b c : Expr} {ta tb tc : TE} {pos : Pos}
/-! ### truth -/
/-! ### strs and bytes -/
/-! ### scalar builtins, by CallR -/
end
end L2

namespace L2
open PySem PySem.Spec PyProof.Rows

/-! ### an instance, its attributes a map -/
section
variable {prog : Program} {w : World} {A : Around} {E : Value → Shared → Prop} {s : Shared} {K : PySem.W.Frag} {x dx C f : Addr} {mA : Str → Option Value} {name : Str} {v : Value}

end

/-! ### the attributes as a list of pairs -/
section
variable {P : Program} {w : World} {H H' : Hp} {h h' : Heap} {a C dx : Addr} {fs fs' : List (Str × V)}
end

/-! ### what of the text a class must have -/
section
variable {X : Cx} {pins : List (Addr × Obj)} {σ : St} {H : Hp} {s : Shared} {a C dx : Addr} {fs : List (Str × V)} {f : Str} {v : V} {A : Around} {E : Value → Shared → Prop}

end

/-! ### readings and rules -/
section
variable {X : Cx} {o e value : Expr} {f : Str} {pos pos' tpos : Pos} {ta tv : TE}
end

/-! ### isinstance -/
section
variable {X : Cx} {pins : List (Addr × Obj)} {σ : St} {H : Hp} {s : Shared} {A : Around} {E : Value → Shared → Prop} {Q : Value → Shared → Prop} {c : Value} {b : Bool}
end
end L2

namespace L2
open PySem PySem.Spec PyProof.Rows

/-! ### room -/
/-! ### argument lists and displays -/
section
variable {X : Cx} {e : Expr} {es : List Expr} {te : TE} {t : TA} {pos : Pos}
end

/-! ### what a def promises -/
section
variable {X : Cx} {pins : List (Addr × Obj)} {σ : St} {H : Hp} {s s' : Shared}
end

/-! ### calls -/
section
variable {X : Cx} {CX : CXT} {k : Nat} {f C : Addr} {fd : FuncData} {ps : List Str} {sp : Sp} {dvs : List V} {ds : List Value} {E : XK} {x m : Str} {p pos apos : Pos} {e o : Expr} {es : List Expr} {ta : TE} {t : TA}

end

/-! ### keywords -/
section
variable {X : Cx} {CX : CXT} {k : Nat} {f C : Addr} {fd : FuncData} {ps ks : List Str} {sp : Sp} {E : XK} {x m : Str} {p pos apos kpos : Pos} {e o : Expr} {es : List Expr} {kws : List Keyword} {te ta : TE} {t tk : TA} {nm : Option Str}
variable {g : List Value → List Value → List Value} {gV : List V → List V → List V}
end

/-! ### a def's body keeps its promise -/
end L2

namespace L2
open PySem PySem.Spec PyProof.Rows
section
variable {X : Cx} {x : Str} {p pos : Pos} {e : Expr} {es : List Expr} {t : TA} {id T : String} {r : List V → Hp → VK → Prop}

end
end L2

namespace L2
open PySem PySem.Spec PyProof.Rows

/-! ### lists of pairs as tables -/
section
variable {κ : Type} [DecidableEq κ]
def valV (kvs : List (κ × V)) (k : κ) : Option V := (kvs.find? fun kv => decide (kv.1 = k)).map (·.2)
def putK (kvs : List (κ × V)) (k : κ) (v : V) : List (κ × V) :=
  if (kvs.any fun kv => decide (kv.1 = k)) = true then kvs.map (fun kv => if kv.1 = k then (kv.1, v) else kv) else kvs ++ [(k, v)]
def dropK (kvs : List (κ × V)) (k : κ) : List (κ × V) := kvs.filter fun kv => decide (kv.1 ≠ k)

theorem valV_pos {p : κ × V} {r : List (κ × V)} {k : κ} (e : p.1 = k) : valV (p :: r) k = some p.2 := by simp [valV, List.find?_cons, e]
theorem valV_neg {p : κ × V} {r : List (κ × V)} {k : κ} (e : ¬ p.1 = k) : valV (p :: r) k = valV r k := by simp [valV, List.find?_cons, e]
theorem RelO.isSome_eq {o : Option V} {u : Option Value} (r : RelO o u) : o.isSome = u.isSome := by
  cases o with
  | none => cases u with
    | none => rfl
    | some _ => exact (show False from r).elim
  | some _ => cases u with
    | none => exact (show False from r).elim
    | some _ => rfl
theorem RelO.getD {o : Option V} {u : Option Value} {d : V} {d' : Value} (r : RelO o u) (rd : RelV d d') : RelV (o.getD d) (u.getD d') := by
  cases o with
  | none => cases u with
    | none => exact rd
    | some _ => exact (show False from r).elim
  | some _ => cases u with
    | none => exact (show False from r).elim
    | some _ => exact r

theorem KV.val {kvs : List (κ × V)} {vs : List (κ × Value)} (r : KV kvs vs) (k : κ) : RelO (valV kvs k) (valueAt vs k) := by
  unfold KV at r
  induction r with
  | nil => exact True.intro
  | @cons p q ps qs h t ih =>
    obtain ⟨h1, h2⟩ := h
    by_cases e : p.1 = k
    · have e' : q.1 = k := h1.symm.trans e
      have b : valueAt (q :: qs) k = some q.2 := by simp [valueAt, List.find?_cons, e']
      rw [valV_pos e, b]; exact h2
    · have e' : ¬ q.1 = k := fun z => e (h1.trans z)
      have b : valueAt (q :: qs) k = valueAt qs k := by simp [valueAt, List.find?_cons, e']
      rw [valV_neg e, b]; exact ih
theorem KV.any {kvs : List (κ × V)} {vs : List (κ × Value)} (r : KV kvs vs) (k : κ) : (kvs.any fun kv => decide (kv.1 = k)) = vs.any fun kv => decide (kv.1 = k) := by
  unfold KV at r
  induction r with
  | nil => rfl
  | cons h t ih => rw [List.any_cons, List.any_cons, ih, h.1]
theorem KV.drop {kvs : List (κ × V)} {vs : List (κ × Value)} (r : KV kvs vs) (k : κ) : KV (dropK kvs k) (without vs k) := by
  unfold KV at r ⊢
  unfold dropK without
  induction r with
  | nil => exact .nil
  | @cons p q ps qs h t ih =>
    obtain ⟨h1, h2⟩ := h
    rw [List.filter_cons, List.filter_cons]
    by_cases e : p.1 = k
    · have a : ¬ decide (p.1 ≠ k) = true := by simp [e]
      have b : ¬ decide (q.1 ≠ k) = true := by simp [h1.symm.trans e]
      rw [if_neg a, if_neg b]; exact ih
    · have e' : ¬ q.1 = k := fun z => e (h1.trans z)
      have a : decide (p.1 ≠ k) = true := by simp [e]
      have b : decide (q.1 ≠ k) = true := by simp [e']
      rw [if_pos a, if_pos b]; exact .cons ⟨h1, h2⟩ ih
theorem KV.keys {kvs : List (κ × V)} {vs : List (κ × Value)} (r : KV kvs vs) : kvs.map (·.1) = vs.map (·.1) := by
  unfold KV at r
  induction r with
  | nil => rfl
  | cons h t ih => rw [List.map_cons, List.map_cons, ih, h.1]
theorem KV.length {kvs : List (κ × V)} {vs : List (κ × Value)} (r : KV kvs vs) : kvs.length = vs.length := Paired.length r
end


/-! ### a tracked dict, its keys ints and texts or tuples of these -/
theorem kV_is {P : Program} {w : World} {k : Key} {u : Value} (r : RelV (kV k) u) : (mixKind P w).is k u = true := by
  cases k with
  | inl i => obtain ⟨t, e⟩ := (show ∃ t, u = Value.int i t from r); subst e; exact mixKind_int P w i t
  | inr x => obtain ⟨t, e⟩ := (show ∃ t, u = Value.str x t from r); subst e; exact mixKind_str P w x t
abbrev KT (H : Hp) : List (List Key × V) → List (List Key × Addr × Value) → Prop := Paired fun p q => p.1 = q.1 ∧ H q.2.1 = some (.tup (p.1.map kV)) ∧ RelV p.2 q.2.2
theorem KT.val {H : Hp} {kvs : List (List Key × V)} {xs : List (List Key × Addr × Value)} (r : KT H kvs xs) (k : List Key) : RelO (valV kvs k) ((atKey xs k).map (·.2)) := by
  induction r with
  | nil => exact True.intro
  | @cons p q ps qs h t ih =>
    obtain ⟨h1, _, h2⟩ := h
    by_cases e : p.1 = k
    · have e' : q.1 = k := h1.symm.trans e
      have b : atKey (q :: qs) k = some q.2 := by simp [atKey, List.find?_cons, e']
      rw [valV_pos e, b]; exact h2
    · have e' : ¬ q.1 = k := fun z => e (h1.trans z)
      have b : atKey (q :: qs) k = atKey qs k := by simp [atKey, List.find?_cons, e']
      rw [valV_neg e, b]; exact ih
theorem KT.keeps {H H' : Hp} {kvs : List (List Key × V)} {xs : List (List Key × Addr × Value)} (r : KT H kvs xs) (ht : ∀ b ys, H b = some (.tup ys) → H' b = some (.tup ys)) : KT H' kvs xs :=
  Paired.mapP r fun _ _ z => ⟨z.1, ht _ _ z.2.1, z.2.2⟩

section
variable {P : Program} {w : World} {H : Hp} {h : Heap} {a : Addr}
theorem rd_of {u : HO} (ok : HOk P w H h) (e : Rd H a u) : ObjOk P w H h a u := e.ok ok
theorem dk_rd {kvs : List (Key × V)} (ok : HOk P w H h) (e : Rd H a (.dK kvs)) : kvs.length ≤ sizeLine ∧ (a == sysModules) = false ∧ ∃ vs, KV kvs vs ∧ h.DictOf (mixKind P w) a vs :=
  show ObjOk P w H h a (.dK kvs) from rd_of ok e
end

def DGet (H : Hp) (a : Addr) (y : V) (r : Option V) : Prop :=
  (∃ kvs k, Rd H a (.dK kvs) ∧ y = kV k ∧ r = valV kvs k) ∨ ∃ kvs k b, Rd H a (.dT kvs) ∧ y = .ref b ∧ H b = some (.tup (k.map kV)) ∧ r = valV kvs k
def DPut (H : Hp) (a : Addr) (y v : V) (H' : Hp) : Prop :=
  (∃ kvs k, H a = some (.dK kvs) ∧ y = kV k ∧ kvs.length < sizeLine ∧ H' = upd H a (.dK (putK kvs k v))) ∨
  ∃ kvs k b, H a = some (.dT kvs) ∧ y = .ref b ∧ H b = some (.tup (k.map kV)) ∧ kvs.length < sizeLine ∧ H' = upd H a (.dT (putK kvs k v))
theorem DGet.k {H : Hp} {a : Addr} {kvs : List (Key × V)} {k : Key} (e : H a = some (.dK kvs)) : DGet H a (kV k) (valV kvs k) := .inl ⟨kvs, k, .inl e, rfl, rfl⟩
theorem DGet.t {H : Hp} {a b : Addr} {kvs : List (List Key × V)} {k : List Key} (e : H a = some (.dT kvs)) (eb : H b = some (.tup (k.map kV))) : DGet H a (.ref b) (valV kvs k) := .inr ⟨kvs, k, b, .inl e, rfl, eb, rfl⟩
theorem DPut.k {H : Hp} {a : Addr} {kvs : List (Key × V)} {k : Key} {v : V} (e : H a = some (.dK kvs)) (hl : kvs.length < sizeLine) : DPut H a (kV k) v (upd H a (.dK (putK kvs k v))) := .inl ⟨kvs, k, e, rfl, hl, rfl⟩
theorem DPut.t {H : Hp} {a b : Addr} {kvs : List (List Key × V)} {k : List Key} {v : V} (e : H a = some (.dT kvs)) (eb : H b = some (.tup (k.map kV))) (hl : kvs.length < sizeLine) :
    DPut H a (.ref b) v (upd H a (.dT (putK kvs k v))) := .inr ⟨kvs, k, b, e, rfl, eb, hl, rfl⟩


section
variable {X : Cx} {pins : List (Addr × Obj)} {σ : St} {H : Hp} {s : Shared} {a : Addr} {y v : V} {u r : Value} {o : Option V} {A : Around} {E : Value → Shared → Prop}

end

section
variable {X : Cx} {pins : List (Addr × Obj)} {σ : St} {H : Hp} {s : Shared} {a : Addr} {kvs : List (Key × V)} {k : Key} {u : Value} {A : Around} {E : Value → Shared → Prop}
theorem d_len {Q : Value → Shared → Prop} (I : Inv X pins σ H s) (e : Rd H a (.dK kvs)) (h : ∀ t s', Inv X pins σ H s' → Q (.int kvs.length t) s') : wpAny (model X.prog X.w) A (call (.builtin "len") [.ref a]) Q E s := by
  obtain ⟨z, hd, vs, rel, dd⟩ := dk_rd I.hok e
  refine call_len_dict hd dd (by rw [← rel.length]; rw [sizeLine_eq] at z; omega) ?_
  rw [← rel.length]
  exact h _ _ (I.tok _)
end


/-! ### readings and rules -/
/-- the element of a subscription, not a slice -/
def NoSl (i : Expr) : Prop := ∀ ov iv, subscripted i false ov iv = operate [ov, iv] (getItem ov iv)
theorem subD_of {prog : Program} {w : World} {A : Around} {E : Value → Shared → Prop} {s : Shared} {env : Env} {value slice : Expr} {pos : Pos} {T id : String} {Q : Value → Shared → Prop}
    (hl : typeLookup (.type T) "__getitem__" = pure (some (.builtin id))) (hs : NoSl slice)
    (h : wpAny (model prog w) A (eval value env) (fun o s₁ => wpAny (model prog w) A (eval slice env) (fun i s₂ => s₂.TypeIs o T ∧ wpAny (model prog w) A (getItem o i) Q E s₂) E s₁) E s) :
    wpAny (model prog w) A (eval (.Subscript value slice pos) env) Q E s := by
  refine Subscript_ (wpAny_mono h (fun o s₁ h₁ => wpAny_mono h₁ (fun i s₂ h₂ => ?_) fun _ _ x => x) fun _ _ x => x)
  obtain ⟨hT, h₂⟩ := h₂
  unfold subscriptTail
  refine wpAny_bind ?_
  rw [getitemInPython_of_ne hT.not_modules]
  refine wpAny_bind (wpAny_specialOf hT hl ?_)
  have fin : wpAny (model prog w) A (subscripted slice false o i) (fun r s₃ => wpAny (model prog w) A (letTemporaryGo value o r >>= fun _ => pure r) Q E s₃) E s₂ := by
    rw [hs o i]
    exact wpAny_operating (wpAny_mono h₂ (fun r s₃ h₃ => wpAny_bind (wpAny_letTemporaryGo (wpAny_pure h₃))) fun _ _ x => x)
  first
    | exact wpAny_pure (wpAny_bind fin)
    | exact wpAny_bind (wpAny_pure (wpAny_bind fin))
    | exact wpAny_bind fin

section
variable {X : Cx} {o i e value : Expr} {pos pos' tpos : Pos} {td ty tv : TE}
end


def tDNewK : TE := fun _ H Q => ∀ p, H p = none → Q (.ref p) (upd H p (.dK []))
section
variable {X : Cx} {pos : Pos}
end

def tPairs : List (TE × TE) → St → Hp → (List (V × V) → Hp → Prop) → Prop
  | [], _, H, Q => Q [] H
  | (tk, tv) :: r, σ, H, Q => tk σ H fun x H1 => tv σ H1 fun y H2 => tPairs r σ H2 fun ps H3 => Q ((x, y) :: ps) H3
abbrev VV : List (V × V) → List (Value × Value) → Prop := Paired fun p q => RelV p.1 q.1 ∧ RelV p.2 q.2
def PPs (X : Cx) (pos : Pos) (keys : List (Option Expr)) (values : List Expr) (trs : List (TE × TE)) : Prop :=
  ∀ (pins : List (Addr × Obj)) (s : Shared) (σ : St) (H : Hp) (Q : List (V × V) → Hp → Prop), Inv X pins σ H s → tPairs trs σ H Q →
    wpAny (model X.prog X.w) X.A (evalPairs (pairTrees keys values X.env pos)) (fun vs s' => ∃ ps H', Inv X pins σ H' s' ∧ VV ps vs ∧ Q ps H') X.xe s
section
variable {X : Cx} {pins : List (Addr × Obj)} {σ : St} {H : Hp} {s : Shared} {a : Addr} {y d : V} {u r : Value} {o : Option V} {A : Around} {E : Value → Shared → Prop}
end

section
variable {X : Cx} {o e f : Expr} {apos cpos : Pos} {td ty tx : TE}
end

/-! ### dict(d): a copy -/
section
variable {X : Cx} {pins : List (Addr × Obj)} {σ : St} {H : Hp} {s : Shared} {a : Addr} {kvs : List (Key × V)} {A : Around} {E : Value → Shared → Prop}
end


section
variable {X : Cx} {pins : List (Addr × Obj)} {σ : St} {H : Hp} {s : Shared} {a : Addr} {y : V} {u : Value} {A : Around} {E : Value → Shared → Prop}
end
end L2

namespace Att
open PySem PySem.W PySem.Calls PyProof.Rows

/-! ### the script -/
/-! ### the attachment: holds_open's last premise (the goal 'hc' behind k_head) from a wpAny of the law's body -/
/-! ### rules over ANY heap (no ledger) from facts about the written part K: the library's own take a ledger (News) for what they write -/
section
variable {prog : Program} {w : World} {A : Around} {E : Value → Shared → Prop} {s : Shared} {K : Frag}

/-! the whole heap as the ledger: makes every rule that writes through a ledger a rule over any heap -/
end
end Att

namespace L2
open PySem PySem.Spec PyProof.Rows

end L2

namespace L2
open PySem PySem.Spec PyProof.Rows

end L2

/-! SHORT WORDS over the layer: a def of the text, its body, what a loop and a test want. -/
namespace L2
open PySem PySem.Spec PyProof.Rows

/-! ### the text by places -/
/-! ### no exception leaves a def -/
/-! ### a def (or method) of the text as it stands behind the top -/
section
variable {P : Program} {w : World} {K : PySem.W.Frag} {mg : Str → Option Value} {base : Heap}
end
/-! ### expressions in short: the name that stands in the i-th slot -/
section
variable {X : Cx}
theorem call_lenD : CallR X (.builtin "len") (fun xs H Q => ∃ a kvs, xs = [V.ref a] ∧ H a = some (.dK kvs) ∧ Q (.int kvs.length) H) := by
  intro pins s σ H xs us Q I r h
  obtain ⟨a, kvs, rfl, ha, q⟩ := h
  obtain ⟨u, rfl, ru⟩ := vals1 r
  cases ru
  exact d_len I (.inl ha) fun t s' I' => ⟨.int kvs.length, H, I', ⟨t, rfl⟩, q⟩
end

/-! ### tests -/
/-! ### heaps -/
/-! ### a dict's pairs: keys that differ -/
section
variable {κ : Type} [DecidableEq κ]
end
end L2

set_option Elab.async false
set_option linter.all false
set_option maxRecDepth 100000
/-! My own additions to the hand layer, part A: exceptions of the program's own. -/
namespace LX
open PySem PySem.Spec PyProof.Rows L2

structure FlyAt (h : Heap) (e T : Addr) (cls fl : Value) : Prop where
  ne : T ≠ e
  ex : ∃ (oe : Obj) (vs : Array Value) (a0 : Value), h.get? e = some oe ∧ oe.cls = cls ∧ oe.data = .fields vs ∧ vs[0]? = some a0 ∧ vs[1]? = some (.ref T)
  tr : ∃ (oT : Obj) (ts : Array Value), h.get? T = some oT ∧ oT.data = .fields ts ∧ ts[3]? = some fl
abbrev Fly (h : Heap) (e T : Addr) (cls : Value) : Prop := FlyAt h e T cls .none

theorem FlyAt.of {h B : Heap} {e : Addr} {cls a0 fl : Value} (x : h.TracedAtW B e cls a0 fl) : ∃ T, FlyAt h e T cls fl ∧ B.get? T = none := by
  obtain ⟨oe, vs, T, oT, ts, he, ⟨hc, h0⟩, hd, h1, hn, hne, hT, hdT, h3⟩ := x
  exact ⟨T, ⟨hne, ⟨oe, vs, a0, he, hc, hd, h0, h1⟩, ⟨oT, ts, hT, hdT, h3⟩⟩, hn⟩
theorem FlyAt.to {h B : Heap} {e T : Addr} {cls fl : Value} (x : FlyAt h e T cls fl) (hn : B.get? T = none) : ∃ a0, h.TracedAtW B e cls a0 fl := by
  obtain ⟨hne, ⟨oe, vs, a0, he, hc, hd, h0, h1⟩, ⟨oT, ts, hT, hdT, h3⟩⟩ := x
  exact ⟨a0, oe, vs, T, oT, ts, he, ⟨hc, h0⟩, hd, h1, hn, hne, hT, hdT, h3⟩

def CXe (P : Program) (w : World) : CXT := fun outer H s E e s' => ∃ (ea T : Addr) (cls : Value) (H' : Hp), e = .ref ea ∧ s'.os = s.os ∧ AllBare s'.gens ∧ Un (frs outer) [] H H' s.heap s'.heap ∧ HOk P w H' s'.heap ∧
  s.heap.get? ea = none ∧ s.heap.get? T = none ∧ H' ea = none ∧ H' T = none ∧ Fly s'.heap ea T cls ∧ E cls none H'

theorem there {P : Program} {w : World} {H : Hp} {h : Heap} {a : Addr} {o : HO} (x : ObjOk P w H h a o) : ∃ u, h.get? a = some u := by
  cases o with
  | lst xs => obtain ⟨_, _, _, _, e⟩ := x; exact ⟨_, e⟩
  | tup xs => obtain ⟨_, _, _, o, e, _⟩ := x; exact ⟨_, e⟩
  | dK kvs => obtain ⟨_, _, _, _, o, _, _, e, _⟩ := x; exact ⟨_, e⟩
  | dT kvs => obtain ⟨_, _, _, _, o, _, _, e, _⟩ := x; exact ⟨_, e⟩
  | set S n => obtain ⟨o, _, _, _, e, _⟩ := x; exact ⟨_, e⟩
  | ins C dx fs => obtain ⟨_, _, _, e, _⟩ := x; exact ⟨_, e⟩
  | own y => exact x
  | xd fs => obtain ⟨_, ⟨_, _, _, e, _⟩, _⟩ := x; exact ⟨_, e⟩
  | rng lo hi => obtain ⟨_, _, _, e⟩ := x; exact ⟨_, e⟩
  | frz ob u => obtain ⟨e, _⟩ := x; exact ⟨_, e⟩
  | tbl ps => exact ⟨_, (show h.get? a = some _ from x)⟩
  | met f y => exact ⟨_, (show h.get? a = some _ from x)⟩
  | ext φ => obtain ⟨_, e, _⟩ := x; exact e

section
variable {X : Cx} {pins : List (Addr × Obj)} {σ : L2.St} {H : Hp} {s : Shared}

structure Loose (X : Cx) (pins : List (Addr × Obj)) (H : Hp) (a : Addr) : Prop where
  new : X.s₀.heap.get? a = none
  free : H a = none
  loc : a ≠ X.env.locals
  cell : ∀ x c, X.env.cells.lookup x = some c → c ≠ a
  pin : ∀ p ∈ X.pn ++ pins, p.1 ≠ a

theorem loose_of (I : Inv X pins σ H s) (hex : X.ex = []) {a : Addr} (h : s.heap.get? a = none) : Loose X pins H a where
  new := by
    cases q : X.s₀.heap.get? a with
    | none => rfl
    | some o =>
      obtain ⟨o', e⟩ := I.base.there a o q (by rw [hex]; exact fun z => nomatch z)
      rw [h] at e; cases e
  free := by
    cases q : H a with
    | none => rfl
    | some u =>
      obtain ⟨o, e⟩ := there (I.hok a u q)
      rw [h] at e; cases e
  loc := fun z => by
    obtain ⟨m, ⟨o, es, ep, ho, _⟩, _⟩ := I.loc
    rw [z, ho] at h; cases h
  cell := fun x c e z => by
    obtain ⟨v, o, ho, _⟩ := I.cell x c e
    rw [z, h] at ho; cases ho
  pin := fun p hp z => by
    have e := (I.pin p hp).1
    rw [z, h] at e; cases e

theorem Loose.mono {H' : Hp} {a : Addr} (l : Loose X pins H a) (h : H' a = none) : Loose X pins H' a := ⟨l.new, h, l.loc, l.cell, l.pin⟩

theorem left_ok {h' : Heap} {xs : List Addr} (I : Inv X pins σ H s) (hex : X.ex = [])
    (h1 : ∀ a ∈ xs, X.s₀.heap.get? a = none ∧ H a = none)
    (kB : ∀ b o, s.heap.get? b = some o → b ∉ xs ++ frs X.stack → h'.get? b = some o)
    (kS : ∀ b o, s.heap.get? b = some o → (∀ vs, o.data ≠ .fields vs) → ∃ sl, h'.get? b = some { o with slots := sl }) :
    Un X.fs [] X.H₀ H X.s₀.heap h' ∧ HOk X.prog X.w H h' := by
  have base : Un X.fs [] X.H₀ H X.s₀.heap s.heap := by have := I.base; rw [hex] at this; exact this
  have nx : ∀ b o, X.s₀.heap.get? b = some o → b ∉ xs := fun b o e hb => by
    have := (h1 b hb).1; rw [this] at e; cases e
  have nL : ∀ b o, X.s₀.heap.get? b = some o → b ≠ X.env.locals := fun b o e => Nat.ne_of_lt (Nat.lt_of_lt_of_le (Heap.lt_size e) I.ok.above)
  have ns : ∀ b o, X.s₀.heap.get? b = some o → b ∉ X.fs → b ∉ xs ++ frs X.stack := fun b o e hb hm =>
    (List.mem_append.mp hm).elim (nx b o e) fun z => (List.mem_cons.mp (I.stkSub b z)).elim (nL b o e) hb
  refine ⟨⟨fun b o e n hb hx => kB b o (base.keep b o e n hb hx) (ns b o e hb), fun b o e n hb hx => ?_, base.free, fun b o e hx => ?_, base.tups, base.frzs, base.tbls⟩, fun a o e => ?_⟩
  · obtain ⟨sl, e1⟩ := base.slot b o e n hb hx
    obtain ⟨_, o2, ho2, hnf⟩ := I.funs.mem hb
    rw [e1] at ho2; cases ho2
    obtain ⟨sl', e2⟩ := kS b _ e1 hnf
    exact ⟨sl', e2⟩
  · obtain ⟨o1, e1⟩ := base.there b o e hx
    by_cases hb : b ∈ X.fs
    · obtain ⟨_, o2, ho2, hnf⟩ := I.funs.mem hb
      obtain ⟨sl', e2⟩ := kS b o2 ho2 hnf
      exact ⟨_, e2⟩
    · exact ⟨o1, kB b o1 e1 (ns b o e hb)⟩
  · refine (I.hok a o e).stay (fun b u hb q => kB b u q fun hm => ?_) (fun _ q => q) fun _ _ q => q
    have tb : ∃ v, H b = some v := by
      rcases hb with z | z
      · exact ⟨o, z ▸ e⟩
      · exact ⟨_, z⟩
    obtain ⟨v, hv⟩ := tb
    rcases List.mem_append.mp hm with z | z
    · have := (h1 b z).2; rw [hv] at this; cases this
    · have := I.stkFree b z; rw [hv] at this; cases this

theorem held_ok {h' : Heap} {xs : List Addr} (I : Inv X pins σ H s) (hex : X.ex = []) (h1 : ∀ a ∈ xs, Loose X pins H a)
    (kB : ∀ b o, s.heap.get? b = some o → b ∉ xs ++ frs X.stack → h'.get? b = some o)
    (kS : ∀ b o, s.heap.get? b = some o → (∀ vs, o.data ≠ .fields vs) → ∃ sl, h'.get? b = some { o with slots := sl }) : Inv X pins σ H { s with heap := h' } := by
  obtain ⟨un, hok⟩ := left_ok I hex (fun a ha => ⟨(h1 a ha).new, (h1 a ha).free⟩) kB kS
  have cellK : ∀ c v, s.heap.IsCell c v → h'.IsCell c v := fun c v ⟨o, ho, hd⟩ => by
    obtain ⟨sl, e⟩ := kS c o ho fun vs z => by rw [hd] at z; cases z
    exact ⟨_, e, hd⟩
  refine ⟨I.ok, I.os, I.bare, by rw [hex]; exact un, ?_, fun x c e => ?_, I.free, I.freeC, fun p hp => ?_, hok, I.len⟩
  · obtain ⟨m, ⟨o, es, ep, ho, hd, r⟩, hl⟩ := I.loc
    obtain ⟨sl, e⟩ := kS _ o ho fun vs z => by rw [hd] at z; cases z
    refine ⟨m, ⟨_, es, ep, e, hd, r⟩, fun i x v e1 e2 e3 => ?_⟩
    obtain ⟨u, ru, l⟩ := hl i x v e1 e2 e3
    refine ⟨u, ru, ?_⟩
    rcases l with l | ⟨k, c, e, z⟩
    · exact .inl l
    · exact .inr ⟨k, c, e, cellK c _ z⟩
  · obtain ⟨v, z⟩ := I.cell x c e
    exact ⟨v, cellK c v z⟩
  · obtain ⟨e, n, ne, nf, d⟩ := I.pin p hp
    refine ⟨kB p.1 p.2 e fun hm => ?_, n, ne, nf, d⟩
    rcases List.mem_append.mp hm with z | z
    · exact (h1 _ z).pin p hp rfl
    · exact (List.mem_cons.mp (I.stkSub _ z)).elim ne nf

theorem newT {h' : Heap} {xs : List Addr} {T : Addr} {oT : Obj} {ts : Array Value} (I : Inv X pins σ H s) (hex : X.ex = []) (h1 : ∀ a ∈ xs, Loose X pins H a)
    (kS : ∀ b o, s.heap.get? b = some o → (∀ vs, o.data ≠ .fields vs) → ∃ sl, h'.get? b = some { o with slots := sl })
    (nT : (PySem.W.hideAll s.heap (xs ++ frs X.stack)).get? T = none) (hT : h'.get? T = some oT) (hd : oT.data = .fields ts) : Loose X pins H T := by
  cases q : s.heap.get? T with
  | none => exact loose_of I hex q
  | some o =>
    have hm : T ∈ xs ++ frs X.stack := Classical.byContradiction fun hm => by rw [PySem.W.hideAll_get _ q hm] at nT; cases nT
    rcases List.mem_append.mp hm with z | z
    · exact h1 _ z
    · obtain ⟨_, o2, ho2, hnf⟩ := I.stack.mem z
      obtain ⟨sl, e3⟩ := kS T o2 ho2 hnf
      rw [e3] at hT
      cases hT
      exact absurd hd (hnf ts)

theorem stack_hide (I : Inv X pins σ H s) (xs : List Addr) : s.heap.FunFrames (PySem.W.hideAll s.heap (xs ++ frs X.stack)) X.stack :=
  PySem.W.funFrames_hide I.stack fun env he a ha => List.mem_append_right _ (List.mem_filterMap.mpr ⟨env, he, ha⟩)

structure Own (X : Cx) : Prop where
  ex : X.ex = []
  stk : X.stack = X.env :: X.outer
  fr : X.env.frame = some X.env.locals

inductive Exc (X : Cx) (pins : List (Addr × Obj)) (H : Hp) (h : Heap) (ea : Addr) (cls : Value) : Prop where
  | new (lo : Loose X pins H ea) (oe : Obj) (vs : Array Value) (a0 : Value) (he : h.get? ea = some oe) (hc : oe.cls = cls) (hd : oe.data = .fields vs) (h0 : vs[0]? = some a0) (h1 : vs[1]? = some .none)
  | fly (lo : Loose X pins H ea) (T : Addr) (lT : Loose X pins H T) (f : FlyAt h ea T cls .none)
  | held (lo : Loose X pins H ea) (T : Addr) (lT : Loose X pins H T) (f : FlyAt h ea T cls (rawInt X.env.locals))
theorem Exc.lo {h : Heap} {ea : Addr} {cls : Value} (x : Exc X pins H h ea cls) : Loose X pins H ea := by cases x <;> assumption

theorem two {a b c : Addr} (h : c ∈ [a, b]) : c = a ∨ c = b := by simpa using h
theorem loose2 {ea T : Addr} (l1 : Loose X pins H ea) (l2 : Loose X pins H T) : ∀ a ∈ [ea, T], Loose X pins H a := fun a ha => by
  rcases two ha with rfl | rfl
  · exact l1
  · exact l2
theorem loose1 {ea : Addr} (l1 : Loose X pins H ea) : ∀ a ∈ [ea], Loose X pins H a := fun a ha => by
  have e : a = ea := by simpa using ha
  subst e; exact l1

theorem note {M : Model} {E : Value → Shared → Prop} {Q : Unit → Shared → Prop} {ea : Addr} {cls : Value} (O : Own X) (I : Inv X pins σ H s) (x : Exc X pins H s.heap ea cls)
    (k : ∀ h' T, Inv X pins σ H { s with heap := h' } → Loose X pins H T → FlyAt h' ea T cls (rawInt X.env.locals) → Q () { s with heap := h' }) : wpAny M X.A (noteFrame (.ref ea) X.env) Q E s := by
  have fr : X.A.frames = some (X.env :: X.outer) := by rw [← O.stk]; exact I.ok.frames
  cases x with
  | new lo oe vs a0 he hc hd h0 h1 =>
    unfold noteFrame
    simp only [O.fr]
    refine wpAny_bind (wpAny_field he hd h1 ?_)
    rw [if_neg (by decide)]
    have F := stack_hide I [ea]
    have F' := F
    rw [O.stk] at F
    refine wpAny_entryW fr F O.fr he (fun b o q => PySem.W.of_hideAll _ q) (PySem.W.hideAll_none _ (by simp)) hd (Array.getElem?_eq_some_iff.mp h1).1 h0 fun h' hN => ?_
    obtain ⟨k1, k2, k3, k4⟩ := hN
    rw [O.stk.symm] at k1 k3
    rw [hc] at k3
    obtain ⟨T, f, nT⟩ := FlyAt.of k3
    obtain ⟨oT, ts, hT, hdT, _⟩ := f.tr
    exact k h' T (held_ok (xs := [ea]) I O.ex (loose1 lo) (fun b o e hb => k1 b o (PySem.W.hideAll_get _ e hb)) k4) (newT (xs := [ea]) I O.ex (loose1 lo) k4 nT hT hdT) f
  | fly lo T lT f =>
    obtain ⟨a0, tr⟩ := f.to (B := PySem.W.hideAll s.heap ([ea, T] ++ frs X.stack)) (PySem.W.hideAll_none _ (by simp))
    have F := stack_hide I [ea, T]
    rw [O.stk] at F tr
    refine wpAny_noteFrame_onW fr F O.fr tr (fun b o q => PySem.W.of_hideAll _ q) (PySem.W.hideAll_none _ (by simp)) fun h' hN => ?_
    obtain ⟨k1, k2, k3, k4⟩ := hN
    rw [O.stk.symm] at k1 k3
    obtain ⟨T', f', nT⟩ := FlyAt.of k3
    obtain ⟨oT, ts, hT, hdT, _⟩ := f'.tr
    exact k h' T' (held_ok (xs := [ea, T]) I O.ex (loose2 lo lT) (fun b o e hb => k1 b o (PySem.W.hideAll_get _ e hb)) k4) (newT (xs := [ea, T]) I O.ex (loose2 lo lT) k4 nT hT hdT) f'
  | held lo T lT f =>
    obtain ⟨a0, tr⟩ := f.to (B := PySem.W.hideAll s.heap ([ea, T] ++ frs X.stack)) (PySem.W.hideAll_none _ (by simp))
    exact wpAny_noteFrame_againW O.fr tr (k s.heap T I lT f)

theorem mark {M : Model} {A : Around} {E : Value → Shared → Prop} {Q : Unit → Shared → Prop} {ea T : Addr} {cls fl : Value} (fl' : Option Addr) (O : Own X) (I : Inv X pins σ H s) (lo : Loose X pins H ea) (lT : Loose X pins H T) (f : FlyAt s.heap ea T cls fl)
    (k : ∀ h', Inv X pins σ H { s with heap := h' } → FlyAt h' ea T cls (fl'.elim Value.none fun f => rawInt f) → Q () { s with heap := h' }) : wpAny M A (setFlight (.ref ea) fl') Q E s := by
  obtain ⟨hne, ⟨oe, vs, a0, he, hc, hd, h0, h1⟩, ⟨oT, ts, hT, hdT, h3⟩⟩ := f
  have hsz3 : 3 < ts.size := (Array.getElem?_eq_some_iff.mp h3).1
  have other : ∀ b, b ≠ T → (s.heap.update T (Obj.mapFields (·.setIfInBounds 3 (fl'.elim Value.none fun f => rawInt f)))).get? b = s.heap.get? b :=
    fun b hb => Heap.get?_update_other _ _ (Ne.symm hb)
  unfold setFlight
  refine wpAny_bind (wpAny_field he hd h1 ?_)
  rw [if_pos (show (Value.ref T != Value.none) = true from by simp)]
  refine wpAny_setField hT hdT hsz3 (k _ ?_ ?_)
  · refine held_ok (xs := [ea, T]) I O.ex (loose2 lo lT) (fun b o e hb => (other b fun z => hb (by simp [z])).trans e) fun b o e hnf => ⟨o.slots, (other b fun z => ?_).trans e⟩
    rw [z, hT] at e
    cases e
    exact hnf ts hdT
  · exact ⟨hne, ⟨oe, vs, a0, (other ea (Ne.symm hne)).trans he, hc, hd, h0, h1⟩, ⟨_, _, Heap.get?_update_self _ hT (Obj.isFreed_of_fields (Obj.data_mapFields hdT _)), Obj.data_mapFields hdT _, by simp [hsz3]⟩⟩

theorem leave {M : Model} {E' : Value → Shared → Prop} {ea : Addr} {cls : Value} {E : XK} (O : Own X) (I : Inv X pins σ H s) (x : Exc X pins H s.heap ea cls) (he : E cls none H) :
    wpAny M X.A (leaving X.env (.ref ea)) (fun _ s'' => CXe X.prog X.w X.outer X.H₀ X.s₀ E (.ref ea) s'') E' s := by
  unfold leaving
  refine wpAny_bind (note O I x fun h' T I' lT f => ?_)
  refine mark none O I' x.lo lT f fun h'' I'' f'' => ?_
  obtain ⟨un, hok⟩ := left_ok (xs := []) (h' := h'') I'' O.ex (fun _ z => nomatch z) (fun b o e _ => e) fun b o e _ => ⟨o.slots, e⟩
  exact ⟨ea, T, cls, H, rfl, I.os, I.bare, un, hok, x.lo.new, lT.new, x.lo.free, lT.free, f'', he⟩
end

def XE (X : Cx) (E : L2.St → XK) : Value → Shared → Prop := fun e s' => ∃ (ea : Addr) (cls : Value) (pins : List (Addr × Obj)) (σ : L2.St) (H : Hp), e = .ref ea ∧ Inv X pins σ H s' ∧ Exc X pins H s'.heap ea cls ∧ E σ cls none H
def wish (X : Cx) (xe : Value → Shared → Prop) : Cx := { X with xe := xe }
theorem ok_wish {X : Cx} {xe : Value → Shared → Prop} (o : X.Ok) : (wish X xe).Ok :=
  ⟨o.mod, o.kind, o.glob, o.blt, o.above, o.inj, o.has, o.cab, o.hd, o.frames, o.stk, o.exf, o.bs, o.bsz, o.noex, o.exfs, o.funs, o.frf⟩
theorem to_wish {X : Cx} {xe : Value → Shared → Prop} {pins : List (Addr × Obj)} {σ : L2.St} {H : Hp} {s : Shared} (I : Inv X pins σ H s) : Inv (wish X xe) pins σ H s :=
  ⟨ok_wish I.ok, I.os, I.bare, I.base, I.loc, I.cell, I.free, I.freeC, I.pin, I.hok, I.len⟩
theorem of_wish {X : Cx} {xe : Value → Shared → Prop} {pins : List (Addr × Obj)} {σ : L2.St} {H : Hp} {s : Shared} (I : Inv (wish X xe) pins σ H s) : Inv X pins σ H s :=
  have o := I.ok
  ⟨⟨o.mod, o.kind, o.glob, o.blt, o.above, o.inj, o.has, o.cab, o.hd, o.frames, o.stk, o.exf, o.bs, o.bsz, o.noex, o.exfs, o.funs, o.frf⟩, I.os, I.bare, I.base, I.loc, I.cell, I.free, I.freeC, I.pin, I.hok, I.len⟩
theorem pss_wish {X : Cx} {xe : Value → Shared → Prop} {b : List Stmt} {t : TS} (h : PSs (wish X xe) b t) (hx : ∀ e s, xe e s → X.xe e s) : PSs X b t := fun pins s σ H D I q =>
  wpAny_mono (h pins s σ H D (to_wish I) q) (fun f s' z => by
    cases f with
    | next => obtain ⟨σ', H', J, q⟩ := z; exact ⟨σ', H', of_wish J, q⟩
    | brk => obtain ⟨σ', H', J, q⟩ := z; exact ⟨σ', H', of_wish J, q⟩
    | cont => obtain ⟨σ', H', J, q⟩ := z; exact ⟨σ', H', of_wish J, q⟩
    | ret u => obtain ⟨v, σ', H', J, r, q⟩ := z; exact ⟨v, σ', H', of_wish J, r, q⟩) hx

def PassesX (CX : CXT) (X : Cx) (E : L2.St → XK) : Prop := ∀ (pins : List (Addr × Obj)) (σ : L2.St) (H : Hp) (s : Shared) (e : Value) (s' : Shared), Inv X pins σ H s → CX X.stack H s (E σ) e s' → X.xe e s'
def RaisesX (X : Cx) (E : L2.St → XK) : Prop := ∀ (pins : List (Addr × Obj)) (σ : L2.St) (H : Hp) (s : Shared) (h' : Heap) (ea : Addr) (cls : Value) (vs : List Value), Inv X pins σ H s → Heap.MadeExcOf s.heap h' ea cls vs → E σ cls none H → X.xe (.ref ea) { s with heap := h' }

section
variable {X : Cx} {E : L2.St → XK}
theorem passX (O : Own X) : PassesX (CXe X.prog X.w) (wish X (XE X E)) E := by
  intro pins σ H1 s1 e s2 I hx
  obtain ⟨ea, T, cls, H2, rfl, os, bare, un, hok, n1, n2, n3, n4, fl, he⟩ := hx
  have I1 := of_wish I
  have I2 := I1.call' (ch := []) os un hok bare (fun b z => nomatch z)
  exact ⟨ea, cls, pins, σ, H2, rfl, I2, .fly ((loose_of I1 O.ex n1).mono n3) T ((loose_of I1 O.ex n2).mono n4) fl, he⟩
theorem raiseX (O : Own X) : RaisesX (wish X (XE X E)) E := by
  intro pins σ H1 s1 h' ea cls vs I hx he
  obtain ⟨t, hea, hnt, htup⟩ := hx.there
  have I1 := of_wish I
  have I2 : Inv X pins σ H1 { s1 with heap := h' } := I1.kept (t' := s1.toks) hx.keeps
  exact ⟨ea, cls, pins, σ, H1, rfl, I2, .new (loose_of I1 O.ex hx.new) _ _ _ hea rfl rfl rfl rfl, he⟩
theorem ownX (O : Own X) {M : Model} : PassesOwn M X.A X.env (XE X E) := by
  rintro e s' ⟨ea, cls, pins, σ, H, rfl, I, x, he⟩
  refine note O I x fun h' T I' lT f => ?_
  obtain ⟨hne, ⟨oe, vs, a0, hoe, hc, hd, h0, h1⟩, tr⟩ := id f
  refine wpAny_bind (wpAny_field hoe hd h1 ?_)
  rw [if_neg (show ¬ ((Value.ref T == Value.none) = true) from by simp)]
  rw [O.fr]
  exact mark (some X.env.locals) O I' x.lo lT f fun h'' I'' f'' => ⟨ea, cls, pins, σ, H, rfl, I'', .held x.lo T lT f'', he⟩
end

section
variable {P : Program} {w : World} {K : PySem.W.Frag} {mg : Str → Option Value} {base : Heap} {N : List Str} {qual : Str} {scope : Scope} {f : Addr} {cd : Value} {A : Around} {outer : List Env} {s : Shared} {H : Hp} {E : XK}
theorem own_cx {CX : CXT} : Own (cxOf CX P w K mg base N qual scope f cd A outer s H E) := ⟨rfl, rfl, rfl⟩
theorem leave_cx : ∀ e s', XE (cxOf (CXe P w) P w K mg base N qual scope f cd A outer s H E) (fun _ => E) e s' → (cxOf (CXe P w) P w K mg base N qual scope f cd A outer s H E).xe e s' := by
  rintro e s' ⟨ea, cls, pins, σ, H1, rfl, I, x, he⟩
  exact leave own_cx I x he
end

/-! ### raise -/
open PySem.W in
theorem exc_of_in {K : Frag} {h₀ : Heap} {C : Addr} {bmB : List Value} {newId : String} (X : K.In h₀) (q : excIn K C bmB newId = true) :
    ∃ bm N nm qn bs hdct sn sub ab col dd k0 k1 k2 k3 k5 mN, h₀.get? C = some (excClassObj nm qn C N bs bm hdct sn sub ab col dd k0 k1 k2 k3 k5 newId) ∧ h₀.Ns N mN ∧ mN "__init__" = none ∧ OwnTail h₀ bmB bm := by
  unfold excIn at q
  split at q
  · rename_i dd cd sl ho
    split at q
    · rename_i C' bm k0 k1 k2 k3 n k5 hm hs
      simp only [Bool.and_eq_true, beq_iff_eq, Bool.not_eq_true'] at q
      obtain ⟨⟨⟨⟨⟨rfl, rfl⟩, hdel⟩, ht⟩, hok⟩, hni⟩ := q
      obtain ⟨nm, bs, mro, ns, qn, hd, sn, sub, ab, col, del⟩ := cd
      dsimp only at hm hdel hok hni
      subst hm hdel
      have hsl : sl = #[k0, k1, k2, k3, some (.builtin n), k5] := by
        obtain ⟨l⟩ := sl
        simp only at hs
        rw [hs]
      subst hsl
      exact ⟨bm, ns, nm, qn, bs, hd, sn, sub, ab, col, dd, k0, k1, k2, k3, k5, _, X _ _ ho, .of_isNs (isNs_of_in X hok), nsMap_none_of_in X hok hni, tail_of_in X ht⟩
    · cases q
  · cases q

section
variable {X : Cx} {x : Str} {np cpos pos : Pos} {e : Expr} {es : List Expr} {t : TA} {C : Addr} {B newId initId : String} {bm : List Value}
def tRaise (E : L2.St → XK) (C : Addr) (ta : TA) : TS := fun _ σ H => ta σ H fun vs H1 => vs.length ≤ sizeLine ∧ E σ (.ref C) none H1
theorem ps_raise {E : L2.St → XK} (R : RaisesX X E) (hc : X.calm = true) (hx : PySem.W.excIn X.K C bm newId = true) (FB : ExcBaseFacts B newId initId bm) (hg : Gl X x) (hm : X.mg x = some (.ref C)) (ha : PA X (e :: es) t) (hdb : (x == ("__debug__" : Str)) = false := by decide)
    (he : starEach (e :: es) X.env = (false, eval e X.env) :: starEach es X.env := by rfl) (hpl : (backTo cpos (starEach es X.env)).any (·.1) = false := by rfl) :
    PS X (.Raise (some (.Call (.Name x np) (e :: es) [] cpos)) none pos) (tRaise E C t) := by
  intro pins s σ H D I h
  obtain ⟨tl, N, nm, q, bs, hdct, sn, sub, ab, col, dd, k0, k1, k2, k3, k5, mN, hC, hN, hni, T⟩ := exc_of_in I.ok.mod.kin hx
  refine wpAny_Raise_call_subT (C := C) (nm := nm) (q := q) (N := N) (bs := bs) (bm := tl) (hdct := hdct) (sn := sn) (sub := sub) (ab := ab) (col := col) (dd := dd) (k0 := k0) (k1 := k1) (k2 := k2) (k3 := k3) (k5 := k5)
    FB (mN := mN) (T.hasType FB.hasBase) (I.ok.hd hc) (by rw [he]; show (false || (backTo cpos (starEach es X.env)).any (·.1)) = false; rw [hpl]; rfl) hni (ld_glob I hg hm ⟨rfl, ?_⟩ hdb)
  have w1 := ha cpos pins s σ H _ I h
  rw [he] at w1 ⊢
  exact Calls.evalArgs_plain (thn w1 fun us s1 ⟨vs, H1, I1, r, z, q⟩ => ⟨rfl, by rw [← r.length]; exact z, I1.bk _ _ hC, hN.keeps I1.bk, T.keeps I1.bk, fun h' ea hm => R pins σ H1 s1 h' ea _ _ I1 hm q⟩)
end

/-! ### calls whose exceptions are wished for -/
def tCallX (sp : Sp) (dvs : List V) (E : L2.St → XK) (t : TA) : TE := fun σ H Q => t σ H fun vs H1 => sp (vs ++ dvs) H1 Q (E σ)
section
variable {X : Cx} {CX : CXT} {k : Nat} {f C : Addr} {fd : FuncData} {ps : List Str} {sp : Sp} {dvs : List V} {ds : List Value} {E : L2.St → XK} {x m : Str} {p pos apos : Pos} {e o : Expr} {es : List Expr} {ta : TE} {t : TA}

theorem run_fnX {pins : List (Addr × Obj)} {σ : L2.St} {H : Hp} {s : Shared} {Q : VK} {us : List Value} {vs : List V} (F : FnOk X.prog X.w X.K X.mg X.base CX k f fd ps sp) (hr : Room k X.A) (hb : Binds X.K fd ps ds) (hd : Vals dvs ds) (hx : PassesX CX X E)
    (I : Inv X pins σ H s) (r : Vals vs us) (h : sp (vs ++ dvs) H Q (E σ)) : wpAny (model X.prog X.w) X.A (call (.ref f) us) (EP X pins σ Q) X.xe s := by
  have r2 : Vals (vs ++ dvs) (us ++ ds) := r.append hd
  have hl : (us ++ ds).length = ps.length := by rw [← r2.length]; exact F.len _ _ _ _ h
  refine wpAny_call (codeAny_mono (F.run X.A X.stack s H ⟨us, []⟩ (us ++ ds) (vs ++ dvs) Q (E σ) hr I.env0 (hb s us I.kIn hl) r2 h) fun r s' hq => ?_)
  cases r with
  | error e => exact hx pins σ H s e s' I hq
  | ok fl =>
    cases fl with
    | ret u => exact I.after hq
    | next => exact False.elim hq
    | brk => exact False.elim hq
    | cont => exact False.elim hq

theorem pe_callX (F : FnOk X.prog X.w X.K X.mg X.base CX k f fd ps sp) (hr : Room k X.A) (hg : Gl X x) (hm : X.mg x = some (.ref f)) (hk : PySem.W.keepIn X.K (.ref f) = true) (hb : Binds X.K fd ps ds) (hd : Vals dvs ds) (hx : PassesX CX X E)
    (ha : PA X (e :: es) t) (hdb : (x == ("__debug__" : Str)) = false := by decide) (he : starEach (e :: es) X.env = (false, eval e X.env) :: starEach es X.env := by rfl) (hpl : (backTo pos (starEach es X.env)).any (·.1) = false := by rfl) :
    PE X (.Call (.Name x p) (e :: es) [] pos) (tCallX sp dvs E t) := by
  intro pins s σ H Q I h
  refine wpAny_Call_Name_kw (ld_glob I hg hm ?_ hdb)
  refine PySem.W.callWith_K (h₀ := X.base) I.ok.mod.kin hk (thn (ha pos pins s σ H _ I h) fun us s1 ⟨vs, H1, I1, r, q⟩ => ⟨I1.kIn, ?_⟩) he hpl
  exact run_fnX F hr hb hd hx I1 r q
end

/-! ### a def, by its body -/
section
variable {P : Program} {w : World} {K : PySem.W.Frag} {mg : Str → Option Value} {base : Heap}
def bodyCx (P : Program) (w : World) (K : PySem.W.Frag) (mg : Str → Option Value) (base : Heap) (N : List Str) (qual : Str) (scope : Scope) (f : Addr) (cd : Value) (A : Around) (outer : List Env) (s : Shared) (H : Hp) (E : XK) : Cx :=
  wish (cxOf (CXe P w) P w K mg base N qual scope f cd A outer s H E) (XE (cxOf (CXe P w) P w K mg base N qual scope f cd A outer s H E) fun _ => E)
theorem okX {x qual : Str} {st : Stmt} {f : Addr} {fd : FuncData} {N ps : List Str} {k : Nat} {sp : Sp} (F : Fun K x qual st f fd) (S : FnScope N ps (defScope st)) (len : ∀ vs H Q E, sp vs H Q E → vs.length = ps.length)
    (hbody : ∀ (cdv : Value) (A : Around) (outer : List Env) (s : Shared) (H : Hp) (vs : List V) (Q : VK) (E : XK), Room k (A.deeper (envOfC qual (defScope st) s.heap.objs.size f cdv)) → sp vs H Q E →
      ∃ t, PSs (bodyCx P w K mg base N qual (defScope st) f cdv A outer s H E) (defBody st) t ∧ t { nx := fun _ H' => Q .non H', rt := Q } (start N vs) H) : FnOk P w K mg base (CXe P w) (k + 1) f fd ps sp := by
  obtain ⟨oc, od, kV, doc, pm, an, cdv, ct, osl, rfl, lk, hcd⟩ := F.ex
  refine fn_of lk hcd S len fun A outer s H vs Q E hr hsp => ?_
  obtain ⟨t, h, q⟩ := hbody cdv A outer s H vs Q E hr hsp
  exact ⟨t, pss_wish h leave_cx, q⟩
end
end LX

set_option Elab.async false
set_option linter.all false
set_option maxRecDepth 100000
/-! My own additions to the hand layer, part B: try and except. -/
namespace LX
open PySem PySem.Spec PyProof.Rows L2

/-! ### a name goes -/
theorem find_erase {α : Type} {p : α → Bool} : ∀ {l : List α} {i : Nat} {a : α}, l[i]? = some a → p a = false → (l.eraseIdx i).find? p = l.find? p
  | [], i, a, h, _ => by simp at h
  | x :: l, 0, a, h, hp => by
    simp at h; subst h
    show l.find? p = _
    rw [List.find?_cons, hp]
  | x :: l, i + 1, a, h, hp => by
    show (x :: l.eraseIdx i).find? p = _
    rw [List.find?_cons, List.find?_cons]
    cases p x with
    | true => rfl
    | false => exact find_erase (l := l) (i := i) (by simpa using h) hp

section
variable {M : Model} {A : Around} {E : Value → Shared → Prop} {s : Shared}
theorem nsDel_but {a : Addr} {m : Str → Option Value} {name : Str} {Q : Bool → Shared → Prop} (hn : s.heap.Ns a m) (hs : (m name).isSome = true)
    (hQ : ∀ h' m', h'.Ns a m' → (∀ y, y ≠ name → m' y = m y) → Heap.SameBut a s.heap h' → Q true { s with heap := h' }) : wpAny M A (nsDel a name) Q E s := by
  obtain ⟨o, es, ep, ho, hd, hk, hm⟩ := id hn
  have hany : es.any (·.refKey) = false := by
    rw [Array.any_eq_false']; intro e he; obtain ⟨n, t, h⟩ := hk e he; simp [DictEntry.refKey, h]
  have hsome : (m name).isSome = es.any (·.key.isStr name) := by
    rw [← hm name]; simp only [nsFind, findBy, Option.isSome_map]
    rw [Bool.eq_iff_iff]; simp only [Array.find?_isSome, Array.any_eq_true]
    constructor
    · rintro ⟨x, hx, hp⟩; obtain ⟨i, hi, rfl⟩ := Array.mem_iff_getElem.mp hx; exact ⟨i, hi, hp⟩
    · rintro ⟨i, hi, hp⟩; exact ⟨_, Array.getElem_mem hi, hp⟩
  have hhas : nsHas name o = pure (es.any (·.key.isStr name)) := by
    rw [nsHas_eq]; unfold nsHasByArray; rw [hd]
    show (if (es.any fun x => x.key.isStr name) = true then _ else _) = _
    generalize (es.any fun x => x.key.isStr name) = b
    cases b <;> simp [hany]
  unfold nsDel
  refine wpAny_bind (wpAny_loadPart ho ?_)
  rw [hhas]
  refine wpAny_bind (wpAny_pure ?_)
  rw [← hsome, hs]
  refine wpAny_bind (wpAny_updatePart ho (wpAny_pure ?_))
  have key : ∃ m', (s.heap.update a (Obj.dropName name)).Ns a m' ∧ ∀ y, y ≠ name → m' y = m y := by
    obtain ⟨cl, d, dt, sl⟩ := o
    subst hd
    cases hi : es.findIdx? (·.key.isStr name) with
    | some i =>
      refine ⟨_, ⟨_, _, ep + 1, Heap.get?_update_self _ ho (by simp only [Obj.dropName_eq, Obj.dropNameByArray, hi] <;> rfl), (by simp only [Obj.dropName_eq, Obj.dropNameByArray, hi] <;> rfl), hk.erase i, fun _ => rfl⟩, fun y hy => ?_⟩
      rw [← hm y]
      obtain ⟨hlt, hp, _⟩ := Array.findIdx?_eq_some_iff_getElem.mp hi
      have hpy : (es[i].key.isStr y) = false := by
        obtain ⟨n, t, hkey⟩ := hk _ (Array.getElem_mem hlt)
        rw [hkey] at hp ⊢
        have e1 : n = name := by simpa [Value.isStr] using hp
        simp only [Value.isStr]
        subst e1
        simp [Ne.symm hy]
      unfold nsFind findBy
      congr 1
      rw [← Array.find?_toList, ← Array.find?_toList]
      have e2 : (es.eraseIdxIfInBounds i).toList = es.toList.eraseIdx i := by
        rw [Array.eraseIdxIfInBounds_eq]; simp [hlt]
      first
        | (rw [e2]; exact find_erase (a := es[i]) (by simp [hlt]) hpy)
        | (simp only [Array.toList_eraseIdx]; exact find_erase (a := es[i]) (by simp [hlt]) hpy)
        | (simp only [Array.toList_eraseIdxIfInBounds]; exact find_erase (a := es[i]) (by simp [hlt]) hpy)
    | none => exact ⟨_, ⟨_, _, ep, Heap.get?_update_self _ ho (by simp only [Obj.dropName_eq, Obj.dropNameByArray, hi] <;> rfl), (by simp only [Obj.dropName_eq, Obj.dropNameByArray, hi] <;> rfl), hk, fun _ => rfl⟩, fun y hy => (hm y)⟩
  obtain ⟨m', hm', hy⟩ := key
  exact hQ _ m' hm' hy (Heap.SameBut.update ..)
end

section
variable {X : Cx} {pins : List (Addr × Obj)} {σ : L2.St} {H : Hp} {s : Shared}
theorem name_goes {M : Model} {E : Value → Shared → Prop} {i : Nat} {n : Str} {pos : Pos} {Q : Unit → Shared → Prop} (I : Inv X pins σ H s) (hN : X.N.Nodup) (hi : X.N[i]? = some n) (hl : X.env.scope.names.lookup n = some .local)
    (h : ∀ s', Inv X pins (σ.set i none) H s' → Q () s') : wpAny M X.A (do bindName X.env n .none; unbindBehindTheSuite X.env n pos) Q E s := by
  have hp : (X.env.scope.kind == .class || (X.env.scope.kind == .module && X.env.locals != X.env.globals)) = false := by rw [I.ok.kind]; rfl
  have hkl : X.env.kindOf n = some .local := hl
  refine wpAny_bind (wpAny_bindName (store_ok (v := .non) I hN hi (Or.inl hl) rfl (fun s1 I1 => ?_) (Or.inr hl)))
  unfold unbindBehindTheSuite
  refine wpAny_onRaise ?_
  unfold unbindName
  refine wpAny_bind (wpAny_point (wpAny_bind ?_))
  unfold deleteName
  simp only [hkl, hp]
  rw [if_neg (by decide)]
  obtain ⟨m, hn, hlk⟩ := I1.loc
  have hiσ : i < σ.length := by rw [I.len]; exact (List.getElem?_eq_some_iff.mp hi).1
  have hsn : (m n).isSome = true := by
    obtain ⟨u, r, l⟩ := hlk i n .non hi (by rw [List.getElem?_set_self hiσ]) (Or.inl hl)
    rcases l with ⟨_, e⟩ | ⟨k, _⟩
    · rw [e]; rfl
    · rw [hkl] at k; rcases k with k | k <;> cases k
  refine wpAny_bind (nsDel_but hn hsn fun h2 m2 hn2 hy2 hs2 => ?_)
  simp only [if_true, Option.isSome_some, Bool.not_true, Bool.false_eq_true, if_false]
  refine wpAny_pure (wpAny_point (h _ ?_))
  obtain ⟨oL, _, _, hoL, _⟩ := id hn
  have keepE : ∀ b o, b ≠ X.env.locals → s1.heap.get? b = some o → h2.get? b = some o := fun b o hb e => (hs2.2 b hb).trans e
  have base := I1.base
  refine ⟨I1.ok, I1.os, I1.bare, ⟨fun b o e n hb hx => ?_, fun b o e n hb hx => ?_, base.free, fun b o e hx => ?_, base.tups, base.frzs, base.tbls⟩, ⟨m2, hn2, fun j y v e1 e2 e3 => ?_⟩, fun y c e => ?_, I1.free, I1.freeC, fun p hp' => ?_, fun b u e => ?_, by rw [List.length_set]; exact I.len⟩
  · exact keepE b o (Nat.ne_of_lt (Nat.lt_of_lt_of_le (Heap.lt_size e) I1.ok.above)) (base.keep b o e n hb hx)
  · obtain ⟨sl, e1⟩ := base.slot b o e n hb hx
    exact ⟨sl, keepE b _ (Nat.ne_of_lt (Nat.lt_of_lt_of_le (Heap.lt_size e) I1.ok.above)) e1⟩
  · obtain ⟨o', e1⟩ := base.there b o e hx
    exact ⟨o', keepE b _ (Nat.ne_of_lt (Nat.lt_of_lt_of_le (Heap.lt_size e) I1.ok.above)) e1⟩
  · by_cases hj : j = i
    · subst hj
      rw [List.getElem?_set_self hiσ] at e2
      cases e2
    · have e2' : (σ.set i (some V.non))[j]? = some (some v) := by
        rw [List.getElem?_set_ne (Ne.symm hj)] at e2 ⊢
        exact e2
      obtain ⟨u, r, l⟩ := hlk j y v e1 e2' e3
      refine ⟨u, r, ?_⟩
      rcases l with ⟨k, e⟩ | ⟨k, c, e, z⟩
      · have : y ≠ n := fun e => hj (nodup_ix hN e1 (e ▸ hi))
        exact .inl ⟨k, by rw [hy2 y this]; exact e⟩
      · exact .inr ⟨k, c, e, z.sameBut hs2 (I1.cne y c e)⟩
  · obtain ⟨w', z⟩ := I1.cell y c e
    exact ⟨w', z.sameBut hs2 (I1.cne y c e)⟩
  · obtain ⟨e, n, ne, nf, d⟩ := I1.pin p hp'
    exact ⟨keepE p.1 p.2 ne e, n, ne, nf, d⟩
  · refine (I1.hok b u e).stay (fun c v hc q => keepE c v ?_ q) (fun _ q => q) fun _ _ q => q
    rintro rfl
    rcases hc with rfl | hc
    · rw [I1.free] at e; cases e
    · rw [I1.free] at hc; cases hc
end

/-! ### the handlers -/
/-- within an except suite: e is being handled, its object is oe -/
def markCx (X : Cx) (ea : Addr) (oe : Obj) (xe : Value → Shared → Prop) : Cx := { X with A := X.A.mark (some (.ref ea)), calm := false, pn := X.pn ++ [(ea, oe)], xe := xe }
section
variable {X : Cx} {pins : List (Addr × Obj)} {σ : L2.St} {H : Hp} {s : Shared} {ea : Addr} {oe : Obj} {xe : Value → Shared → Prop}
theorem to_mark (I : Inv X pins σ H s) (lo : Loose X pins H ea) {vs : Array Value} (he : s.heap.get? ea = some oe) (hd : oe.data = .fields vs) : Inv (markCx X ea oe xe) pins σ H s := by
  have o := I.ok
  refine ⟨⟨o.mod, o.kind, o.glob, o.blt, o.above, o.inj, o.has, o.cab, (fun z => nomatch z), o.frames, o.stk, o.exf, o.bs, o.bsz, o.noex, o.exfs, o.funs, o.frf⟩, I.os, I.bare, I.base, I.loc, I.cell, I.free, I.freeC, fun p hp => ?_, I.hok, I.len⟩
  have hp' : p ∈ (X.pn ++ [(ea, oe)]) ++ pins := hp
  rcases List.mem_append.mp hp' with z | z
  · rcases List.mem_append.mp z with z | z
    · exact I.pin p (List.mem_append_left _ z)
    · have e : p = (ea, oe) := by simpa using z
      subst e
      refine ⟨he, lo.free, lo.loc, fun hb => ?_, fun v z => ?_⟩
      · obtain ⟨_, o2, ho2, hnf⟩ := I.funs.mem hb
        rw [he] at ho2; cases ho2
        exact hnf vs hd
      · have z' : oe.data = .cell v := z
        rw [hd] at z'; cases z'
  · exact I.pin p (List.mem_append_right _ z)
theorem of_mark (ok : X.Ok) (I : Inv (markCx X ea oe xe) pins σ H s) : Inv X pins σ H s :=
  ⟨ok, I.os, I.bare, I.base, I.loc, I.cell, I.free, I.freeC, fun p hp => I.pin p ((List.mem_append.mp hp).elim (fun z => List.mem_append_left _ (List.mem_append_left _ z)) (List.mem_append_right _)), I.hok, I.len⟩
theorem sp_mark (ok : X.Ok) {D : Ends} {f : Flow} (h : SP (markCx X ea oe xe) pins D f s) : SP X pins D f s := by
  cases f with
  | next => obtain ⟨σ', H', J, q⟩ := h; exact ⟨σ', H', of_mark ok J, q⟩
  | brk => obtain ⟨σ', H', J, q⟩ := h; exact ⟨σ', H', of_mark ok J, q⟩
  | cont => obtain ⟨σ', H', J, q⟩ := h; exact ⟨σ', H', of_mark ok J, q⟩
  | ret u => obtain ⟨v, σ', H', J, r, q⟩ := h; exact ⟨v, σ', H', of_mark ok J, r, q⟩
end

def PH (X : Cx) (hs : List ExceptHandler) (th : Value → TS) : Prop := ∀ (pins : List (Addr × Obj)) (σ : L2.St) (H : Hp) (s : Shared) (ea T : Addr) (cls : Value) (D : Ends), Inv X pins σ H s → Loose X pins H ea → Loose X pins H T → FlyAt s.heap ea T cls .none → th cls D σ H →
  wpAny (model X.prog X.w) X.A (handleBy (.ref ea) X.env hs) (SP X pins D) X.xe s
section
variable {X : Cx} {c n : Str} {np pos : Pos} {b₀ : Stmt} {suite : List Stmt} {rest : List ExceptHandler} {C : Addr} {ts : TS} {tr : Value → TS}
def hNil : Value → TS := fun _ _ _ _ => False
theorem ph_nil : PH X [] hNil := fun _ _ _ _ _ _ _ _ _ _ _ _ h => h.elim
theorem looks_cls {M : Model} {h : Heap} {ea : Addr} {oe : Obj} {cls : Value} (he : h.get? ea = some oe) (hc : oe.cls = cls) : PySem.W.Looks M h (typeOf (.ref ea)) cls := hc ▸ (PySem.W.Looks.ld he).andThen .now
def hAs (K : PySem.W.Frag) (C : Addr) (i : Nat) (ts : Addr → Obj → TS) (tr : Value → TS) : Value → TS := fun cls D σ H => ∃ b, PySem.W.exmOne K cls (.ref C) = some b ∧
  if b = true then ∀ ea oe, oe.cls = cls → ts ea oe { nx := fun σ' H' => D.nx (σ'.set i none) H', rt := D.rt, bk := fun σ' H' => D.bk (σ'.set i none) H', ct := fun σ' H' => D.ct (σ'.set i none) H' } (σ.set i (some (.ref ea))) H else tr cls D σ H
theorem ph_as {i : Nat} {ts : Addr → Obj → TS} (O : Own X) (hN : X.N.Nodup) (hi : X.N[i]? = some n) (hl : X.env.scope.names.lookup n = some .local) (hg : Gl X c) (hm : X.mg c = some (.ref C)) (hsuite : ∀ ea oe xe, PSs (markCx X ea oe xe) (b₀ :: suite) (ts ea oe)) (hr : PH X rest tr)
    (hdb : (c == ("__debug__" : Str)) = false := by decide) :
    PH X (.ExceptHandler (some (.Name c np)) (some n) (b₀ :: suite) pos :: rest) (hAs X.K C i ts tr) := by
  intro pins σ H s ea T cls D I lo lT f h
  obtain ⟨b, hx, h⟩ := h
  obtain ⟨hne, ⟨oe, vs, a0, he, hc, hd, h0, h1⟩, tr'⟩ := id f
  refine wpAny_handleBy_cons (codeAny_handlers_test (ld_glob (X := markCx X ea oe X.xe) (to_mark I lo he hd) hg hm ?_ hdb)) (by intro q; cases q)
  refine (PySem.W.exm_one I.kIn (looks_cls he hc) hx).here ?_
  cases b with
  | true =>
    rw [if_pos rfl] at h
    refine codeAny_handlers_suite_as (mark none O I lo lT f fun h' I2 f2 => ?_)
    obtain ⟨_, ⟨oe2, vs2, _, he2, hc2, hd2, _, _⟩, _⟩ := id f2
    refine store_ok2 (v := .ref ea) I2 hN hi (Or.inl hl) rfl (fun s3 I3 hsb => ?_) (Or.inr hl)
    have he3 : s3.heap.get? ea = some oe2 := by
      obtain ⟨a, sb, ha⟩ := hsb
      refine (sb.2 ea ?_).trans he2
      rcases ha with z | z
      · rw [z]; exact lo.loc
      · exact Ne.symm (lo.cell n a z)
    refine thn (hsuite ea oe2 _ pins _ _ H _ (to_mark I3 lo he3 hd2) (h ea oe2 hc2)) fun fl s' q => ?_
    have q' := sp_mark I.ok q
    cases fl with
    | next => obtain ⟨σ', H', J, q⟩ := q'; exact name_goes J hN hi hl fun s4 J4 => ⟨_, H', J4, q⟩
    | brk => obtain ⟨σ', H', J, q⟩ := q'; exact name_goes J hN hi hl fun s4 J4 => ⟨_, H', J4, q⟩
    | cont => obtain ⟨σ', H', J, q⟩ := q'; exact name_goes J hN hi hl fun s4 J4 => ⟨_, H', J4, q⟩
    | ret u => obtain ⟨v, σ', H', J, r, q⟩ := q'; exact name_goes J hN hi hl fun s4 J4 => ⟨v, _, H', J4, r, q⟩
  | false =>
    rw [if_neg Bool.false_ne_true] at h
    exact hr pins σ H s ea T cls D I lo lT f h
end

/-! ### try -/
def pinCx (X : Cx) (pins : List (Addr × Obj)) : Cx := { X with pn := X.pn ++ pins }
def tryCx (X : Cx) (pins : List (Addr × Obj)) (E : L2.St → XK) : Cx := wish (pinCx X pins) (XE (pinCx X pins) E)
section
variable {X : Cx} {pins pins' : List (Addr × Obj)} {σ : L2.St} {H : Hp} {s : Shared}
theorem ok_pin (o : X.Ok) : (pinCx X pins).Ok := ⟨o.mod, o.kind, o.glob, o.blt, o.above, o.inj, o.has, o.cab, o.hd, o.frames, o.stk, o.exf, o.bs, o.bsz, o.noex, o.exfs, o.funs, o.frf⟩
theorem to_pin (I : Inv X pins σ H s) : Inv (pinCx X pins) [] σ H s :=
  ⟨ok_pin I.ok, I.os, I.bare, I.base, I.loc, I.cell, I.free, I.freeC, fun p hp => I.pin p (by have hp' : p ∈ (X.pn ++ pins) ++ [] := hp; simpa using hp'), I.hok, I.len⟩
theorem of_pin (ok : X.Ok) (I : Inv (pinCx X pins) pins' σ H s) : Inv X pins σ H s :=
  ⟨ok, I.os, I.bare, I.base, I.loc, I.cell, I.free, I.freeC, fun p hp => I.pin p (List.mem_append_left _ hp), I.hok, I.len⟩
theorem loose_pin {a : Addr} (l : Loose (pinCx X pins) pins' H a) : Loose X pins H a := ⟨l.new, l.free, l.loc, l.cell, fun p hp => l.pin p (List.mem_append_left _ hp)⟩
theorem exc_pin {h : Heap} {ea : Addr} {cls : Value} (x : Exc (pinCx X pins) pins' H h ea cls) : Exc X pins H h ea cls := by
  cases x with
  | new lo oe vs a0 he hc hd h0 h1 => exact .new (loose_pin lo) oe vs a0 he hc hd h0 h1
  | fly lo T lT f => exact .fly (loose_pin lo) T (loose_pin lT) f
  | held lo T lT f => exact .held (loose_pin lo) T (loose_pin lT) f
theorem own_pin (O : Own X) : Own (pinCx X pins) := ⟨O.ex, O.stk, O.fr⟩
end
def tTry (tb : (L2.St → XK) → TS) (th : Value → TS) : TS := fun D σ H => tb (fun σ' cls _ H' => th cls D σ' H') D σ H
theorem ps_try {X : Cx} {body : List Stmt} {h₀ : ExceptHandler} {hs : List ExceptHandler} {pos : Pos} {tb : (L2.St → XK) → TS} {th : Value → TS} (O : Own X) (hb : ∀ pins E, PSs (tryCx X pins E) body (tb E)) (hh : PH X (h₀ :: hs) th) :
    PS X (.Try body (h₀ :: hs) [] [] pos) (tTry tb th) := by
  intro pins s σ H D I h
  refine wpAny_Try_except (wpAny_mono (hb pins _ [] s σ H D (to_wish (to_pin I)) h) (fun f s1 q => ?_) fun e s1 q => ?_)
  · cases f with
    | next => obtain ⟨σ', H', J, q⟩ := q; exact wpAny_execs_nil ⟨σ', H', of_pin I.ok (of_wish J), q⟩
    | brk => obtain ⟨σ', H', J, q⟩ := q; exact ⟨σ', H', of_pin I.ok (of_wish J), q⟩
    | cont => obtain ⟨σ', H', J, q⟩ := q; exact ⟨σ', H', of_pin I.ok (of_wish J), q⟩
    | ret u => obtain ⟨v, σ', H', J, r, q⟩ := q; exact ⟨v, σ', H', of_pin I.ok (of_wish J), r, q⟩
  · obtain ⟨ea, cls, pins', σ', H', rfl, J, x, he⟩ := q
    have J' := of_pin I.ok J
    have x' := exc_pin x
    refine note O J' x' fun h' T I' lT f => ?_
    exact mark none O I' x'.lo lT f fun h'' I'' f'' => hh pins σ' H' _ ea T cls D I'' x'.lo lT f'' he
theorem passTry {X : Cx} {pins : List (Addr × Obj)} {E : L2.St → XK} (O : Own X) : PassesX (CXe X.prog X.w) (tryCx X pins E) E := passX (X := pinCx X pins) (own_pin O)
end LX

set_option Elab.async false
set_option linter.all false
set_option maxRecDepth 100000
/-! My own additions to the hand layer, part C: list comprehensions. -/
namespace LX
open PySem PySem.Spec PyProof.Rows L2

section
variable {X : Cx} {pins : List (Addr × Obj)} {σ : L2.St} {H : Hp} {s : Shared}
theorem track {D : Addr} {o : HO} (I : Inv X pins σ H s) (l : Loose X pins H D) (new : ObjOk X.prog X.w (upd H D o) s.heap D o) : Inv X pins σ (upd H D o) s := by
  have hn := l.free
  refine ⟨I.ok, I.os, I.bare, ⟨I.base.keep, I.base.slot, fun b ob e n hx => ?_, I.base.there, fun b xs e => ?_, fun b ob u e => ?_, fun b ps e => ?_⟩, I.loc, I.cell, ?_, fun x c e => ?_, fun p hp => ?_, fun b u e => ?_, I.len⟩
  · rw [upd_ne (fun z => by rw [z, l.new] at e; cases e)]; exact I.base.free b ob e n hx
  · have e' := I.base.tups b xs e; rw [upd_ne (ne_of_none e' hn)]; exact e'
  · have e' := I.base.frzs b ob u e; rw [upd_ne (ne_of_none e' hn)]; exact e'
  · obtain ⟨m, e'⟩ := I.base.tbls b ps e; exact ⟨m, by rw [upd_ne (ne_of_none e' hn)]; exact e'⟩
  · rw [upd_ne (Ne.symm l.loc)]; exact I.free
  · rw [upd_ne (l.cell x c e)]; exact I.freeC x c e
  · obtain ⟨e, n, r⟩ := I.pin p hp
    exact ⟨e, by rw [upd_ne (l.pin p hp)]; exact n, r⟩
  · by_cases hb : b = D
    · subst hb; rw [upd_same] at e; cases e; exact new
    · rw [upd_ne hb] at e
      exact (I.hok b u e).stay (fun c v _ q => q) (fun c q => by rw [upd_ne (ne_of_none q hn)]; exact q) fun c xs q => by rw [upd_ne (ne_of_none q hn)]; exact q
end

/-! ### the block's names -/
def compOk (scope : Scope) (x : Str) (fv : List Str) (sc : Scope) : Bool :=
  (scope.kind == .function) && (scope.names.lookup x == some .local) && scope.names.all (fun y => y.2 != .cell && (y.2 != .local || scope.names.lookup y.1 == some .local) && (y.2 != .free || sc.names.lookup y.1 == some .cell || sc.names.lookup y.1 == some .free)) &&
  fv.all (fun y => scope.names.contains (y, .free) && scope.names.lookup y == some .free)
structure CompOk (scope : Scope) (x : Str) (fv : List Str) (sc : Scope) : Prop where
  kind : scope.kind = .function
  var : scope.names.lookup x = some .local
  nocell : ∀ y ∈ scope.names, y.2 ≠ .cell
  loc : ∀ y ∈ scope.names, y.2 = .local → scope.names.lookup y.1 = some .local
  free : ∀ y ∈ scope.names, y.2 = .free → sc.names.lookup y.1 = some .cell ∨ sc.names.lookup y.1 = some .free
  fv : ∀ y ∈ fv, (y, .free) ∈ scope.names ∧ scope.names.lookup y = some .free
theorem compOk_of {scope : Scope} {x : Str} {fv : List Str} {sc : Scope} (h : compOk scope x fv sc = true) : CompOk scope x fv sc := by
  unfold compOk at h
  simp only [Bool.and_eq_true, beq_iff_eq, List.all_eq_true, Bool.or_eq_true, bne_iff_ne, ne_eq, List.contains_iff_mem] at h
  obtain ⟨⟨⟨h1, h2⟩, h3⟩, h4⟩ := h
  refine ⟨h1, h2, fun y hy => (h3 y hy).1.1, fun y hy e => ?_, fun y hy e => ?_, fun y hy => h4 y hy⟩
  · rcases (h3 y hy).1.2 with z | z
    · exact absurd e z
    · exact z
  · rcases (h3 y hy).2 with (z | z) | z
    · exact absurd e z
    · exact .inl z
    · exact .inr z

theorem closure_of {scope : Scope} {env : Env} (h : ∀ y ∈ scope.names, y.2 = .free → ∃ c, env.cells.lookup y.1 = some c) :
    ∃ cl, closureFor scope env = pure cl ∧ (∀ y c, cl.lookup y = some c → env.cells.lookup y = some c) ∧ ∀ y, (y, NameKind.free) ∈ scope.names → cl.lookup y = env.cells.lookup y := by
  have go : ∀ (names : List (Str × NameKind)) (cs : List (Str × Addr)), (∀ y ∈ names, y.2 = .free → ∃ c, env.cells.lookup y.1 = some c) → (∀ y c, cs.lookup y = some c → env.cells.lookup y = some c) →
      ∃ cl, (forIn (m := Sem) names cs fun (x : Str × NameKind) r => if (x.2 == NameKind.free) = true then (do let c ← cellOf env x.1; pure (ForInStep.yield ((x.1, c) :: r))) else pure (ForInStep.yield r)) = pure cl ∧
        (∀ y c, cl.lookup y = some c → env.cells.lookup y = some c) ∧ (∀ y c, cs.lookup y = some c → (cl.lookup y).isSome = true) ∧ ∀ y, (y, NameKind.free) ∈ names → (cl.lookup y).isSome = true := by
    intro names
    induction names with
    | nil => intro cs _ hc; exact ⟨cs, rfl, hc, fun y c e => by rw [e]; rfl, fun y z => nomatch z⟩
    | cons p r ih =>
      intro cs hn hc
      obtain ⟨n, k⟩ := p
      rw [List.forIn_cons]
      by_cases hk : k = .free
      · subst hk
        obtain ⟨c, e⟩ := hn (n, .free) List.mem_cons_self rfl
        have e : env.cells.lookup n = some c := e
        have hc' : ∀ y d, ((n, c) :: cs).lookup y = some d → env.cells.lookup y = some d := fun y d z => by
          rw [List.lookup_cons] at z
          cases hy : y == n with
          | true => rw [hy] at z; cases z; rw [beq_iff_eq.mp hy]; exact e
          | false => rw [hy] at z; exact hc y d z
        obtain ⟨cl, q1, q2, q3, q4⟩ := ih ((n, c) :: cs) (fun y hy => hn y (List.mem_cons_of_mem _ hy)) hc'
        refine ⟨cl, ?_, q2, fun y d z => ?_, fun y hy => ?_⟩
        · show ((do let c ← cellOf env n; pure (ForInStep.yield ((n, c) :: cs)) : Sem (ForInStep (List (Str × Addr)))) >>= _) = _
          unfold cellOf
          rw [e]
          exact q1
        · cases hy : y == n with
          | true => exact q3 y c (by rw [List.lookup_cons, hy])
          | false => exact q3 y d (by rw [List.lookup_cons, hy]; exact z)
        · rcases List.mem_cons.mp hy with z | z
          · cases z; exact q3 n c (by rw [List.lookup_cons]; simp)
          · exact q4 y z
      · have hb : (k == NameKind.free) = false := by simpa using hk
        obtain ⟨cl, q1, q2, q3, q4⟩ := ih cs (fun y hy => hn y (List.mem_cons_of_mem _ hy)) hc
        refine ⟨cl, ?_, q2, q3, fun y hy => ?_⟩
        · simp only [hb, Bool.false_eq_true, if_false]
          exact q1
        · rcases List.mem_cons.mp hy with z | z
          · cases z; exact absurd rfl hk
          · exact q4 y z
  obtain ⟨cl, q1, q2, _, q4⟩ := go scope.names [] h (fun y c e => nomatch e)
  refine ⟨cl, ?_, q2, fun y hy => ?_⟩
  · refine Eq.trans (b := ((forIn (m := Sem) scope.names [] fun (x : Str × NameKind) r => if (x.2 == NameKind.free) = true then (do let c ← cellOf env x.1; pure (ForInStep.yield ((x.1, c) :: r))) else pure (ForInStep.yield r)) >>= fun s => pure s)) rfl ?_
    rw [q1]
    rfl
  · obtain ⟨c, e⟩ := Option.isSome_iff_exists.mp (q4 y hy)
    rw [e, q2 y c e]

theorem relabel_free {env : Env} : ∀ {names : List (Str × NameKind)} {x : Str}, names.lookup x = some .free →
    (names.map fun (n, k) => if (k == NameKind.free && env.scope.kind == .function && env.kindOf n == some .cell) then (n, NameKind.cell) else (n, k)).lookup x = some .cell ∨
    (names.map fun (n, k) => if (k == NameKind.free && env.scope.kind == .function && env.kindOf n == some .cell) then (n, NameKind.cell) else (n, k)).lookup x = some .free
  | [], _, h => by simp at h
  | (n, k) :: r, x, h => by
    have ih := @relabel_free env r x
    show List.lookup x ((if (k == NameKind.free && env.scope.kind == .function && env.kindOf n == some .cell) = true then (n, NameKind.cell) else (n, k)) :: _) = _ ∨ List.lookup x ((if (k == NameKind.free && env.scope.kind == .function && env.kindOf n == some .cell) = true then (n, NameKind.cell) else (n, k)) :: _) = _
    cases hx : x == n with
    | true =>
      simp only [List.lookup_cons, hx] at h
      cases h
      by_cases hc : (NameKind.free == NameKind.free && env.scope.kind == .function && env.kindOf n == some .cell) = true
      · rw [if_pos hc]; left; simp only [List.lookup_cons, hx]
      · rw [if_neg hc]; right; simp only [List.lookup_cons, hx]
    | false =>
      simp only [List.lookup_cons, hx] at h
      by_cases hc : (k == NameKind.free && env.scope.kind == .function && env.kindOf n == some .cell) = true
      · rw [if_pos hc]; simp only [List.lookup_cons, hx]; exact ih h
      · rw [if_neg hc]; simp only [List.lookup_cons, hx]; exact ih h

theorem relabel_from {env : Env} : ∀ {names : List (Str × NameKind)} {x : Str} {q : NameKind}, (∀ y ∈ names, y.2 ≠ .cell) → (names.map fun (n, k) => if (k == NameKind.free && env.scope.kind == .function && env.kindOf n == some .cell) then (n, NameKind.cell) else (n, k)).lookup x = some q →
    (q = .cell ∨ q = .free) → (x, NameKind.free) ∈ names
  | [], _, _, _, h, _ => by simp at h
  | (n, k) :: r, x, q, hn, h, hq => by
    have ih := @relabel_from env r x q (fun y hy => hn y (List.mem_cons_of_mem _ hy))
    have hk : k ≠ .cell := hn (n, k) List.mem_cons_self
    have h : List.lookup x ((if (k == NameKind.free && env.scope.kind == .function && env.kindOf n == some .cell) = true then (n, NameKind.cell) else (n, k)) :: _) = some q := h
    cases hx : x == n with
    | true =>
      have e := beq_iff_eq.mp hx
      subst e
      by_cases hc : (k == NameKind.free && env.scope.kind == .function && env.kindOf x == some .cell) = true
      · simp only [Bool.and_eq_true, beq_iff_eq] at hc
        rw [hc.1.1]; exact List.mem_cons_self
      · rw [if_neg hc] at h
        simp only [List.lookup_cons, hx] at h
        cases h
        rcases hq with z | z
        · exact absurd z hk
        · rw [z]; exact List.mem_cons_self
    | false =>
      refine List.mem_cons_of_mem _ (ih ?_ hq)
      by_cases hc : (k == NameKind.free && env.scope.kind == .function && env.kindOf n == some .cell) = true
      · rw [if_pos hc] at h; simp only [List.lookup_cons, hx] at h; exact h
      · rw [if_neg hc] at h; simp only [List.lookup_cons, hx] at h; exact h

def blkCx (X : Cx) (scope : Scope) (cl : List (Str × Addr)) (C : Addr) (N : List Str) (s : Shared) (H : Hp) (fp : List Addr) : Cx where
  prog := X.prog
  w := X.w
  K := X.K
  mg := X.mg
  base := X.base
  A := X.A
  N := N
  s₀ := s
  H₀ := H
  env := compEnvC scope cl C X.env
  outer := X.stack
  stack := X.stack
  ex := fp
  fn := fun _ => false
  calm := X.calm
  pn := []
  xe := fun _ _ => False

section
variable {prog : Program} {w : World} {A : Around} {E : Value → Shared → Prop} {R : Result → Shared → Prop} {s : Shared}
theorem compLoopX {elt target iter : Expr} {ifs : List Expr} {scope : Scope} {pos : Pos} {it acc : Value} {env : Env} (I : Nat → Shared → Prop)
    (turn : ∀ n s, I n s → wpAny (model prog w) A (pyNext it) (fun r s₁ => match r with
      | none => R (.ok .next) s₁
      | some v => wpAny (model prog w) A (letOwnedTupleGo target it v) (fun _ s₁' => wpAny (model prog w) A (assign target env v) (fun _ s₂ =>
          wpAny (model prog w) A (forIn ifs true fun c r => if r = true then do let ok ← isTrue c env (eval c env); pure (ForInStep.yield ok) else pure (ForInStep.yield r)) (fun ok s₃ =>
            if ok = true then wpAny (model prog w) A (eval elt env) (fun x s₄ =>
              wpAny (model prog w) A (call (.builtin "list.append") [acc, x]) (fun _ s₅ => ∃ m, m < n ∧ I m s₅) (fun _ _ => False) s₄) (fun _ _ => False) s₃
            else ∃ m, m < n ∧ I m s₃) (fun _ _ => False) s₂) (fun _ _ => False) s₁') (fun _ _ => False) s₁) (fun _ _ => False) s)
    (n : Nat) (h : I n s) :
    codeAny (model prog w) A (.compLoop (.ListComp elt [⟨target, iter, ifs, 0⟩] scope pos) 0 it acc env) R s := by
  refine codeAny_loop rfl I (fun n s hI => ?_) n h
  show wpAny _ A ((compTurn (.ListComp elt [⟨target, iter, ifs, 0⟩] scope pos) 0 it acc env).onRaise (fun x => do noteFrame x env; theTreesLotGoes x)) _ _ s
  refine wpAny_noted ?_
  rw [compTurn_list]
  refine wpAny_bind (wpAny_standAt (wpAny_bind (wpAny_mono (turn n s hI) (fun r s₁ h₁ => ?_) fun _ _ h' => h'.elim)))
  cases r with
  | none => exact wpAny_pure h₁
  | some v =>
    refine wpAny_bind (wpAny_mono h₁ (fun _ s₁' h₁' => ?_) fun _ _ h' => h'.elim)
    refine wpAny_bind (wpAny_mono h₁' (fun _ s₂ h₂ => wpAny_bind (wpAny_mono h₂ (fun ok s₃ h₃ => ?_) fun _ _ h' => h'.elim)) fun _ _ h' => h'.elim)
    cases ok with
    | false => exact wpAny_pure ⟨rfl, h₃⟩
    | true =>
      exact wpAny_bind (wpAny_bind (wpAny_mono h₃ (fun x s₄ h₄ => wpAny_bind (wpAny_mono h₄ (fun _ s₅ h₅ => wpAny_pure (wpAny_pure ⟨rfl, h₅⟩)) fun _ _ h' => h'.elim)) fun _ _ h' => h'.elim))
end

def PIf (X : Cx) (ifs : List Expr) (t : TT) : Prop := ∀ (pins : List (Addr × Obj)) (s : Shared) (σ : L2.St) (H : Hp) (Q : Bool → Hp → Prop), Inv X pins σ H s → t σ H Q →
  wpAny (model X.prog X.w) X.A (forIn ifs true fun c r => if r = true then do let ok ← isTrue c X.env (eval c X.env); pure (ForInStep.yield ok) else pure (ForInStep.yield r)) (TP X pins σ Q) X.xe s
def tAll : TT := fun _ H Q => Q true H
theorem pif_nil {X : Cx} : PIf X [] tAll := fun _ _ _ H _ I h => wpAny_tests_nil ⟨H, I, h⟩
def fvals (ixs : List Nat) (σ : L2.St) : L2.St := ixs.map fun j => (σ[j]?).join
def CompW (J : It) (fv : L2.St) (tif : TT) (te : TE) (Q : List V → Hp → Prop) (H1 : Hp) : Prop := ∃ W : Nat → Nat → List V → Hp → Prop, (∃ m, W 0 m [] H1) ∧ ∀ i m acc H, W i m acc H →
  (J.stop i H ∧ acc.length ≤ sizeLine ∧ Q acc H) ∨ (J.go i H ∧ acc.length < sizeLine ∧ ∀ x H', J.yld i H x H' → tif (some x :: fv) H' fun b H2 => if b = true then te (some x :: fv) H2 fun v H3 => ∃ m', m' < m ∧ W (i + 1) m' (acc ++ [v]) H3 else ∃ m', m' < m ∧ W (i + 1) m' acc H2)
def tComp (wi : TI) (ixs : List Nat) (tif : TT) (te : TE) : TE := fun σ H Q => wi σ H fun J H1 => CompW J (fvals ixs σ) tif te (fun acc H2 => ∀ D, H2 D = none → Q (.ref D) (upd H2 D (.lst acc))) H1

section
variable {X : Cx} {pins : List (Addr × Obj)} {σ : L2.St} {H : Hp} {s : Shared}
theorem loose_ge (I : Inv X pins σ H s) {a : Addr} (h : s.heap.objs.size ≤ a) {H' : Hp} (hn : H' a = none) : Loose X pins H' a where
  new := Heap.get?_none_of_le (Nat.le_trans I.sz h)
  free := hn
  loc := Nat.ne_of_gt (Nat.lt_of_lt_of_le I.lt h)
  cell := fun x c e z => by
    obtain ⟨v, q⟩ := I.cell x c e
    exact absurd (Nat.lt_of_lt_of_le q.lt (by rw [z]; exact h)) (Nat.lt_irrefl _)
  pin := fun p hp z => absurd (Nat.lt_of_lt_of_le (Heap.lt_size (I.pin p hp).1) (by rw [z]; exact h)) (Nat.lt_irrefl _)
theorem loose_turn {h' : Heap} {it : Addr} {t' : Nat} (I : Inv X pins σ H s) (l : Loose X pins H it) (hs : X.s₀.heap.objs.size ≤ it) (k : ∀ b o, b ≠ it → s.heap.get? b = some o → h'.get? b = some o) : Inv X pins σ H { s with heap := h', toks := t' } :=
  I.turned (it := it) k l.free l.loc (.inr hs) l.cell l.pin
end

section
variable {X : Cx} {pins : List (Addr × Obj)} {σ : L2.St} {scope : Scope} {x : Str} {px pos : Pos} {fv : List Str} {ixs : List Nat} {elt iter : Expr} {ifs : List Expr} {tif : TT} {te : TE} {cl : List (Str × Addr)}

theorem blk_start {H2 : Hp} {s2 : Shared} {fp : List Addr} {h1 : Heap} {tk : Nat} {D C : Addr} {m : Str → Option Value} {dobj : Obj} (ok : CompOk scope x fv X.env.scope) (hix : ixs.map (fun k => X.N[k]?) = fv.map some)
    (hcl1 : ∀ y c, cl.lookup y = some c → X.env.cells.lookup y = some c) (hcl2 : ∀ y, (y, NameKind.free) ∈ scope.names → cl.lookup y = X.env.cells.lookup y)
    (I2 : Inv X pins σ H2 s2) (f2 : ∀ b ∈ fp, FpOk X pins H2 b) (fo : ∀ b ∈ fp, ∃ o, s2.heap.get? b = some o) (hD : s2.heap.objs.size ≤ D) (hC : s2.heap.objs.size ≤ C) (hDC : D ≠ C)
    (k1 : ∀ b o, s2.heap.get? b = some o → h1.get? b = some o) (hd : h1.get? D = some dobj) (hdd : ∀ v, dobj.data ≠ .cell v) (hm : h1.Ns C m) :
    Inv (blkCx X scope cl C (x :: fv) s2 H2 fp) [(D, dobj)] (none :: fvals ixs σ) H2 { s2 with heap := h1, toks := tk } := by
  have o := I2.ok
  have fresh : ∀ a, s2.heap.objs.size ≤ a → H2 a = none := fun a ha => I2.hok.fresh ha
  have lenf : fv.length = ixs.length := by have := congrArg List.length hix; simpa using this.symm
  refine ⟨⟨o.mod, ok.kind, o.glob, o.blt, hC, fun y z c e1 e2 => o.inj y z c (hcl1 y c e1) (hcl1 z c e2), fun y hy => ?_, fun y c h => (nomatch (show false = true from h)), o.hd, o.frames, .inl rfl, fun b hb => ?_, I2.bs, Nat.le_trans o.bsz I2.sz, fun b ob e hb => ?_, fun b hb hs => ?_, I2.stack, I2.stkFree⟩,
    rfl, I2.bare, Un.kept k1, ⟨m, hm, fun i y v e1 e2 e3 => ?_⟩, fun y c e => ?_, fresh C hC, fun y c e => I2.freeC y c (hcl1 y c e), fun p hp => ?_, I2.hok.kept k1, ?_⟩
  · have hy' : (relabel scope X.env).names.lookup y = some .cell ∨ (relabel scope X.env).names.lookup y = some .free := hy
    have hmem : (y, NameKind.free) ∈ scope.names := by
      rcases hy' with z | z
      · exact relabel_from ok.nocell z (.inl rfl)
      · exact relabel_from ok.nocell z (.inr rfl)
    obtain ⟨c, e⟩ := o.has y (ok.free _ hmem rfl)
    exact ⟨c, by rw [show (blkCx X scope cl C (x :: fv) s2 H2 fp).env.cells = cl from rfl, hcl2 y hmem]; exact e⟩
  · obtain ⟨ob, e⟩ := fo b hb
    exact ⟨Nat.ne_of_lt (Nat.lt_of_lt_of_le (Heap.lt_size e) hC), fun y c z => (f2 b hb).2.2.2.2.1 y c (hcl1 y c z)⟩
  · rcases (f2 b hb).2.2.2.1 with z | z
    · exact o.noex b ob e z
    · exact absurd (Nat.lt_of_lt_of_le (Heap.lt_size e) (Nat.le_trans o.bsz z)) (Nat.lt_irrefl _)
  · exact (List.mem_cons.mp (I2.stkSub b hs)).elim (f2 b hb).2.1 (f2 b hb).2.2.1
  · cases i with
    | zero => cases e2
    | succ i =>
      have e1' : fv[i]? = some y := by simpa [blkCx] using e1
      have e2' : (fvals ixs σ)[i]? = some (some v) := by simpa using e2
      have hi : i < ixs.length := by rw [← lenf]; exact (List.getElem?_eq_some_iff.mp e1').1
      have hk : X.N[ixs[i]]? = some y := by
        have := congrArg (fun l => l[i]?) hix
        simp only [List.getElem?_map] at this
        rw [e1', List.getElem?_eq_getElem hi] at this
        simpa using this
      have hv : σ[ixs[i]]? = some (some v) := by
        unfold fvals at e2'
        rw [List.getElem?_map, List.getElem?_eq_getElem hi] at e2'
        simp only [Option.map_some, Option.some.injEq] at e2'
        cases q : σ[ixs[i]]? with
        | none => rw [q] at e2'; cases e2'
        | some z => rw [q] at e2'; cases z with
          | none => cases e2'
          | some z' => cases e2'; rfl
      obtain ⟨hmem, hfr⟩ := ok.fv y (List.mem_of_getElem? e1')
      have hXk := ok.free _ hmem rfl
      obtain ⟨m0, hn0, hl0⟩ := I2.loc
      obtain ⟨u, r, l⟩ := hl0 _ y v hk hv (by rcases hXk with z | z; exact .inr (.inl z); exact .inr (.inr z))
      refine ⟨u, r, ?_⟩
      rcases l with ⟨k, _⟩ | ⟨_, c, e, ⟨oc, hoc, hocd⟩⟩
      · have k' : X.env.scope.names.lookup y = some .local := k
        rcases hXk with z | z <;> (rw [show X.env.scope.names.lookup y = _ from z] at k'; cases k')
      · exact .inr ⟨relabel_free hfr, c, by rw [show (blkCx X scope cl C (x :: fv) s2 H2 fp).env.cells = cl from rfl, hcl2 y hmem]; exact e, ⟨oc, k1 _ _ hoc, hocd⟩⟩
  · obtain ⟨v, oc, hoc, hocd⟩ := I2.cell y c (hcl1 y c e)
    exact ⟨v, oc, k1 _ _ hoc, hocd⟩
  · have e : p = (D, dobj) := by
      have hp' : p ∈ ([] : List (Addr × Obj)) ++ [(D, dobj)] := hp
      simpa using hp'
    subst e
    refine ⟨hd, fresh D hD, hDC, fun z => ?_, hdd⟩
    obtain ⟨_, ob, ho, _⟩ := I2.stack.mem z
    exact absurd (Nat.lt_of_lt_of_le (Heap.lt_size ho) hD) (Nat.lt_irrefl _)
  · show (none :: fvals ixs σ).length = (x :: fv).length
    unfold fvals
    simp [lenf]

theorem blk_run {E : Value → Shared → Prop} {H2 : Hp} {s2 : Shared} {it : Addr} {fp : List Addr} {tn : Nat → Heap → Prop} {J : It} {Q : List V → Hp → Prop} {RR : Value → Addr → Result → Shared → Prop}
    (ok : CompOk scope x fv X.env.scope) (hnd : (x :: fv).Nodup) (hix : ixs.map (fun k => X.N[k]?) = fv.map some) (hc : X.calm = true)
    (hcl1 : ∀ y c, cl.lookup y = some c → X.env.cells.lookup y = some c) (hcl2 : ∀ y, (y, NameKind.free) ∈ scope.names → cl.lookup y = X.env.cells.lookup y)
    (hif : ∀ C s H fp, PIf (blkCx X scope cl C (x :: fv) s H fp) ifs tif) (he : ∀ C s H fp, PE (blkCx X scope cl C (x :: fv) s H fp) elt te)
    (I2 : Inv X pins σ H2 s2) (T : Turn X.prog X.w X.K (.Name x px) J fp it tn) (st2 : tn 0 s2.heap) (f2 : ∀ b ∈ fp, FpOk X pins H2 b) (cw : CompW J (fvals ixs σ) tif te Q H2)
    (hRR : ∀ (D C : Addr) (s' : Shared) (m : Str → Option Value) (acc : List V) (H' : Hp), s'.heap.Ns C m → Inv X pins σ (upd H' D (.lst acc)) s' → Loose X pins (upd H' D (.lst acc)) C → X.s₀.heap.objs.size ≤ C → C ≠ D → H' D = none → Q acc H' → RR (.ref D) C (.ok .next) s') :
    wpAny (model X.prog X.w) X.A (newList []) (fun acc s3 => wpAny (model X.prog X.w) X.A (newFunctionEnv scope X.env.globals cl [] X.env.qual none .none (some X.env)) (fun cenv s4 =>
      codeAny (model X.prog X.w) X.A (.compStart (.ListComp elt [⟨.Name x px, iter, ifs, 0⟩] scope pos) 0 (.ref it) acc { cenv with scope := relabel scope X.env }) (RR acc cenv.locals) s4) E s3) E s2 := by
  obtain ⟨W, ⟨m0, w0⟩, turn⟩ := cw
  refine wpAny_newObj_type (wpAny_newFunctionEnv ok.nocell (by intro y hy; simp at hy) (fun h1 hns1 hsb1 => ?_) ok.kind)
  dsimp only at hns1 hsb1 ⊢
  generalize hH2 : s2.heap.push { cls := .type "list", dict := none, data := .seq ([] : List Value).toArray } = G at hns1 hsb1 ⊢
  have hC : G.objs.size = s2.heap.objs.size + 1 := by rw [← hH2, Heap.size_push]
  have hDC : s2.heap.objs.size ≠ G.objs.size := by rw [hC]; exact Nat.ne_of_lt (Nat.lt_succ_self _)
  have hCle : s2.heap.objs.size ≤ G.objs.size := by rw [hC]; exact Nat.le_succ _
  have old : ∀ b o, s2.heap.get? b = some o → h1.get? b = some o := fun b o e =>
    hsb1.extBut b o (by rw [hC]; exact Nat.ne_of_lt (Nat.lt_succ_of_lt (Heap.lt_size e))) (Heap.get?_push_of_some _ (hH2 ▸ Heap.get?_push_of_some _ e))
  have hacc : h1.get? s2.heap.objs.size = some { cls := .type "list", dict := none, data := .seq ([] : List Value).toArray } := hsb1.extBut _ _ hDC (Heap.get?_push_of_some _ (hH2 ▸ Heap.get?_push_size _ rfl))
  have st1 : tn 0 h1 := T.keep _ _ _ st2 fun b _ o e => old b o e
  have fo : ∀ b ∈ fp, ∃ o, s2.heap.get? b = some o := fun b hb => let ⟨o, e, _⟩ := T.obj _ _ st2 b hb; ⟨o, e⟩
  generalize hCg : G.objs.size = C at *
  generalize hDg : s2.heap.objs.size = D at *
  have hDle : s2.heap.objs.size ≤ D := by rw [hDg]; exact Nat.le_refl _
  have hCle' : s2.heap.objs.size ≤ C := by rw [hDg]; exact hCle
  -- what stays true of the iterator's objects
  have fpB : ∀ {H' : Hp} {o : Obj}, (∀ b ∈ fp, H' b = none) → ∀ b ∈ fp, FpOk (blkCx X scope cl C (x :: fv) s2 H2 fp) [(D, o)] H' b := fun {H' o} hn b hb => by
    obtain ⟨ob, e⟩ := fo b hb
    refine ⟨hn b hb, Nat.ne_of_lt (Nat.lt_of_lt_of_le (Heap.lt_size e) hCle'), fun z => (List.mem_cons.mp (I2.stkSub b z)).elim (f2 b hb).2.1 (f2 b hb).2.2.1, .inl hb, fun y c z => (f2 b hb).2.2.2.2.1 y c (hcl1 y c z), fun p hp => ?_⟩
    have ep : p = (D, o) := by
      have hp' : p ∈ ([] : List (Addr × Obj)) ++ [(D, o)] := hp
      simpa using hp'
    subst ep
    exact Nat.ne_of_gt (Nat.lt_of_lt_of_le (Heap.lt_size e) hDle)
  have loop : ∀ s3 : Shared, s3 = { s2 with heap := h1, toks := s2.toks + ([] : List (Str × Value)).length } →
      codeAny (model X.prog X.w) X.A (.compLoop (.ListComp elt [⟨.Name x px, iter, ifs, 0⟩] scope pos) 0 (.ref it) (.ref D) (compEnvC scope cl C X.env)) (RR (.ref D) C) s3 := by
    rintro s3 rfl
    refine compLoopX (fun n s => ∃ i acc its cnt v0 H, Inv (blkCx X scope cl C (x :: fv) s2 H2 fp) [(D, { cls := .type "list", data := .seq (List.toArray its) cnt })] (v0 :: fvals ixs σ) H s ∧ Vals acc its ∧ tn i s.heap ∧ (∀ b ∈ fp, H b = none) ∧ W i n acc H) ?_ m0
      ⟨0, [], [], 0, none, H2, blk_start ok hix hcl1 hcl2 I2 f2 fo hDle hCle' hDC old hacc (fun v z => nomatch z) hns1, .nil, st1, fun b hb => (f2 b hb).1, w0⟩
    rintro n s3 ⟨i, acc, its, cnt, v0, H3, I3, rv, st3, fr3, w3⟩
    rcases turn i n acc H3 w3 with ⟨stop, hz, qn⟩ | ⟨go, hz, step⟩
    · refine thn (T.done (blkCx X scope cl C (x :: fv) s2 H2 fp) rfl rfl rfl hc i _ s3 _ H3 _ I3 (fpB fr3) st3 stop) fun r s4 ⟨hr, I4⟩ => ?_
      subst hr
      obtain ⟨pe, pn, pL, pF, _⟩ := I4.pin (D, { cls := .type "list", data := .seq (List.toArray its) cnt }) (List.mem_append_right _ (List.mem_singleton.mpr rfl))
      have I5 : Inv X pins σ H3 s4 := I2.call' (ch := fp) I4.os I4.base I4.hok I4.bare fun b hb => ⟨(f2 b hb).2.2.2.1, (f2 b hb).2.1, (f2 b hb).2.2.2.2.1, (f2 b hb).2.2.2.2.2⟩
      have lD : Loose X pins H3 D := loose_ge I2 hDle pn
      have I6 := track (o := .lst acc) I5 lD ⟨hz, its, cnt, rv, pe⟩
      obtain ⟨m4, hn4, _⟩ := I4.loc
      exact hRR D C s4 m4 acc H3 hn4 I6 (loose_ge I2 hCle' (by rw [upd_ne (Ne.symm hDC)]; exact I4.free)) (Nat.le_trans I2.sz hCle') (Ne.symm hDC) pn qn
    · refine thn (T.item (blkCx X scope cl C (x :: fv) s2 H2 fp) rfl rfl rfl hc i _ s3 _ H3 _ I3 (fpB fr3) st3 go) fun r s4 ⟨u, hr, h4⟩ => ?_
      subst hr
      refine thn h4 fun _ s5 ⟨y, H5, I5, r5, y5, st5, fr5⟩ => ?_
      have I5' := I5.pinned (fpB fr5) (T.obj _ _ st5)
      refine wpAny_assign_Name (store_ok (i := 0) I5' hnd rfl (.inl (lookup_relabel_local ok.var)) r5 (fun s6 I6 => ?_) (.inr (lookup_relabel_local ok.var)))
      have again : ∀ {σ7 : L2.St} {H7 : Hp} {s7 : Shared}, Inv (blkCx X scope cl C (x :: fv) s2 H2 fp) ([(D, { cls := .type "list", data := .seq (List.toArray its) cnt })] ++ pinsAt fp s5.heap) σ7 H7 s7 → tn (i + 1) s7.heap ∧ ∀ b ∈ fp, H7 b = none := fun {σ7 H7 s7} I7 => by
        refine ⟨T.keep _ _ _ st5 fun b hb o e => (I7.pin (b, o) (List.mem_append_right _ (List.mem_append_right _ (mem_pinsAt hb e)))).1, fun b hb => ?_⟩
        obtain ⟨o, e, d⟩ := T.obj _ _ st5 b hb
        exact (I7.pin (b, o) (List.mem_append_right _ (List.mem_append_right _ (mem_pinsAt hb e)))).2.1
      refine thn (hif _ _ _ _ _ s6 _ H5 _ I6 (step y H5 y5)) fun okb s7 ⟨H7, I7, q7⟩ => ?_
      cases okb with
      | false =>
        rw [if_neg Bool.false_ne_true] at q7 ⊢
        obtain ⟨m', hm, w7⟩ := q7
        obtain ⟨st7, fr7⟩ := again I7
        exact ⟨m', hm, i + 1, acc, its, cnt, some y, H7, I7.unpinned, rv, st7, fr7, w7⟩
      | true =>
        rw [if_pos rfl] at q7 ⊢
        refine thn (he _ _ _ _ _ s7 _ H7 _ I7 q7) fun yv s8 ⟨v, H8, I8, r8, m', hm, w8⟩ => ?_
        obtain ⟨st8, fr8⟩ := again I8
        have I9 := I8.unpinned
        obtain ⟨pe, pn, pL, pF, _⟩ := I9.pin (D, { cls := .type "list", data := .seq (List.toArray its) cnt }) (List.mem_append_right _ (List.mem_singleton.mpr rfl))
        have lens : its.length = acc.length := rv.length.symm
        refine wpAny_list_append_plain ⟨cnt, pe⟩ (fun h9 hl9 hs9 => ?_) (by simp only [List.size_toArray]; omega)
        obtain ⟨cnt', pe'⟩ := hl9
        have I10 : Inv (blkCx X scope cl C (x :: fv) s2 H2 fp) [] (some y :: fvals ixs σ) H8 s8 := I9.pins_of fun p hp => nomatch hp
        have I11 : Inv (blkCx X scope cl C (x :: fv) s2 H2 fp) [] (some y :: fvals ixs σ) H8 { s8 with heap := h9 } := I10.turned (t' := s8.toks) (it := D) (fun b o hb e => (hs9.2 b hb).trans e) pn pL (.inr hDle)
          (fun z c e q => by
            obtain ⟨v', oc, hoc, _⟩ := I2.cell z c (hcl1 z c e)
            exact absurd (Nat.lt_of_lt_of_le (Heap.lt_size hoc) (by rw [q]; exact hDle)) (Nat.lt_irrefl _)) (fun p hp => nomatch hp)
        refine ⟨m', hm, i + 1, acc ++ [v], its ++ [yv], cnt', some y, H8, I11.pins_of fun p hp => ?_, rv.append (.cons r8 .nil), T.keep _ _ _ st8 fun b hb o e => (hs9.2 b ?_).trans e, fr8, w8⟩
        · have ep : p = (D, { cls := .type "list", data := .seq (List.toArray (its ++ [yv])) cnt' }) := by simpa using hp
          subst ep
          exact ⟨by simpa using pe', pn, pL, pF, fun v z => nomatch z⟩
        · obtain ⟨ob, e'⟩ := fo b hb
          exact Nat.ne_of_lt (Nat.lt_of_lt_of_le (Heap.lt_size e') hDle)
  exact codeAny_compStart_list (loop _ rfl) (T.self _ 0 _ _ _ st1 (loop _ rfl))

theorem pe_comp {wi : TI} (hck : compOk scope x fv X.env.scope = true) (hnd : (x :: fv).Nodup) (hix : ixs.map (fun k => X.N[k]?) = fv.map some) (hc : X.calm = true) (hi : PI X (.Name x px) iter wi)
    (hif : ∀ cl C s H fp, PIf (blkCx X scope cl C (x :: fv) s H fp) ifs tif) (he : ∀ cl C s H fp, PE (blkCx X scope cl C (x :: fv) s H fp) elt te) (hs : ∀ x, foldedSetIterable iter X.env x = pure x := by intro _; rfl) :
    PE X (.ListComp elt [⟨.Name x px, iter, ifs, 0⟩] scope pos) (tComp wi ixs tif te) := by
  intro pins s σ H Q I h
  have ok := compOk_of hck
  obtain ⟨cl, hclos, hcl1, hcl2⟩ := closure_of (scope := scope) (env := X.env) fun y hy e => I.ok.has y.1 (ok.free y hy e)
  rw [eval_ListComp]
  refine wpAny_comprehension_free (use := none) rfl hs hclos ok.kind ok.loc (thn (hi pins s σ H _ I h) fun v s1 h1 => thn h1 fun itv s2 h2 => ?_)
  obtain ⟨it, fp, tn, J, H2, e, I2, T, st2, f2, cw⟩ := h2
  subst e
  refine blk_run (Q := fun acc H2 => ∀ D, H2 D = none → Q (.ref D) (upd H2 D (.lst acc))) (RR := fun acc C => compPost (model X.prog X.w) X.A X.xe none (EP X pins σ Q) acc C) ok hnd hix hc hcl1 hcl2 (hif cl) (he cl) I2 T st2 f2 cw ?_
  intro D C s' m acc H' hn I' lC hC hCD hD hQ
  exact ⟨m, hn, fun h' hs' => ⟨.ref D, _, loose_turn (t' := s'.toks) I' lC hC fun b o hb e => (hs'.2 b hb).trans e, rfl, hQ D hD⟩⟩
end

section
variable {X : Cx} {scope : Scope} {x y : Str} {px py pos spos : Pos} {fv : List Str} {ixs : List Nat} {elt iter : Expr} {ifs : List Expr} {tif : TT} {te : TE}
end

/-! ### the forms one uses -/
theorem comp_list {K : PySem.W.Frag} {a : Addr} {xs : List V} {fv : L2.St} {tif : TT} {te : TE} {Q : List V → Hp → Prop} {H1 : Hp} (g : V → Bool) (fn : V → V) (hq : SqL K H1 a xs) (hz : xs.length ≤ sizeLine)
    (hs : ∀ x ∈ xs, ∀ H, Same H1 H → ∀ (Rt : V → Hp → Prop) (Rf : Hp → Prop), (g x = true → ∀ H3, Same H1 H3 → Rt (fn x) H3) → (g x = false → ∀ H2, Same H1 H2 → Rf H2) → tif (some x :: fv) H fun b H2 => if b = true then te (some x :: fv) H2 Rt else Rf H2)
    (hd : ∀ H, Same H1 H → Q ((xs.filter g).map fn) H) : CompW (Itl K a) fv tif te Q H1 := by
  refine ⟨fun i m acc H => m = xs.length - i ∧ i ≤ xs.length ∧ Same H1 H ∧ acc = ((xs.take i).filter g).map fn, ⟨xs.length, by simp, Nat.zero_le _, Same.refl _, by simp⟩, ?_⟩
  rintro i m acc H ⟨rfl, hi, sm, rfl⟩
  have q := sm.seq hq
  have len : (((xs.take i).filter g).map fn).length ≤ i := by
    rw [List.length_map]
    exact Nat.le_trans (List.length_filter_le _ _) (by rw [List.length_take]; exact Nat.min_le_left _ _)
  by_cases hlt : i < xs.length
  · refine .inr ⟨⟨xs, xs[i], q, by simp [hlt]⟩, by omega, fun x H' y => ?_⟩
    obtain ⟨e, y⟩ := y
    subst e
    have hx := y xs q
    have tk : xs.take (i + 1) = xs.take i ++ [x] := by rw [List.take_succ, hx]; rfl
    refine hs x (List.mem_of_getElem? hx) _ sm _ _ (fun hg H3 s3 => ⟨xs.length - (i + 1), by omega, rfl, hlt, s3, ?_⟩) (fun hg H2 s2 => ⟨xs.length - (i + 1), by omega, rfl, hlt, s2, ?_⟩)
    · rw [tk, List.filter_append, List.map_append]; simp [hg]
    · rw [tk, List.filter_append, List.map_append]; simp [hg]
  · have e : i = xs.length := by omega
    subst e
    exact .inl ⟨⟨xs, q, Nat.le_refl _⟩, by omega, by rw [List.take_length]; exact hd H sm⟩
theorem comp_range {lo : Int} {n : Nat} {fv : L2.St} {tif : TT} {te : TE} {Q : List V → Hp → Prop} {H1 : Hp} (g : Nat → Bool) (fn : Nat → V) (hz : n ≤ sizeLine)
    (hs : ∀ k, k < n → ∀ H, Same H1 H → ∀ (Rt : V → Hp → Prop) (Rf : Hp → Prop), (g k = true → ∀ H3, Same H1 H3 → Rt (fn k) H3) → (g k = false → ∀ H2, Same H1 H2 → Rf H2) → tif (some (.int (lo + k)) :: fv) H fun b H2 => if b = true then te (some (.int (lo + k)) :: fv) H2 Rt else Rf H2)
    (hd : ∀ H, Same H1 H → Q (((List.range n).filter g).map fn) H) : CompW (Itr lo n) fv tif te Q H1 := by
  refine ⟨fun i m acc H => m = n - i ∧ i ≤ n ∧ Same H1 H ∧ acc = ((List.range i).filter g).map fn, ⟨n, by simp, Nat.zero_le _, Same.refl _, by simp⟩, ?_⟩
  rintro i m acc H ⟨rfl, hi, sm, rfl⟩
  have len : (((List.range i).filter g).map fn).length ≤ i := by
    rw [List.length_map]
    exact Nat.le_trans (List.length_filter_le _ _) (by rw [List.length_range]; exact Nat.le_refl _)
  by_cases hlt : i < n
  · refine .inr ⟨hlt, by omega, fun x H' y => ?_⟩
    obtain ⟨e, y⟩ := y
    subst e y
    refine hs i hlt _ sm _ _ (fun hg H3 s3 => ⟨n - (i + 1), by omega, rfl, hlt, s3, ?_⟩) (fun hg H2 s2 => ⟨n - (i + 1), by omega, rfl, hlt, s2, ?_⟩)
    · rw [List.range_succ, List.filter_append, List.map_append]; simp [hg]
    · rw [List.range_succ, List.filter_append, List.map_append]; simp [hg]
  · have e : i = n := by omega
    subst e
    exact .inl ⟨Nat.le_refl _, by omega, hd H sm⟩
end LX

set_option Elab.async false
set_option linter.all false
set_option maxRecDepth 100000
/-! My own additions to the hand layer, part D: == of data, isinstance, all. -/
namespace LX
open PySem PySem.Spec PyProof.Rows L2

/-! ### data: a value read through the heap -/
mutual
inductive RdV (H : Hp) : V → PyData → Prop
  | non : RdV H .non .none
  | bl (b : Bool) : RdV H (.bl b) (.bool b)
  | int (i : Int) : RdV H (.int i) (.int i)
  | str (x : Str) : RdV H (.str x) (.str x)
  | lst {a : Addr} {xs : List V} {ds : List PyData} : H a = some (.lst xs) → RdVs H xs ds → RdV H (.ref a) (.list ds)
  | tup {a : Addr} {xs : List V} {ds : List PyData} : H a = some (.tup xs) → RdVs H xs ds → RdV H (.ref a) (.tuple ds)
inductive RdVs (H : Hp) : List V → List PyData → Prop
  | nil : RdVs H [] []
  | cons {x : V} {d : PyData} {xs : List V} {ds : List PyData} : RdV H x d → RdVs H xs ds → RdVs H (x :: xs) (d :: ds)
end
mutual
theorem RdV.reads {P : Program} {w : World} {H : Hp} {h : Heap} (ok : HOk P w H h) : ∀ {x : V} {d : PyData} {u : Value}, RdV H x d → RelV x u → ∃ as, Reads h u d as
  | _, _, _, .non, r => by cases r; exact ⟨_, .none⟩
  | _, _, _, .bl b, r => by cases r; exact ⟨_, .bool b⟩
  | _, _, _, .int i, r => by obtain ⟨t, rfl⟩ := r; exact ⟨_, .int i t⟩
  | _, _, _, .str x, r => by obtain ⟨t, rfl⟩ := r; exact ⟨_, .str x t⟩
  | _, _, _, .lst (a := a) (xs := xs) e q, r => by
    cases r
    obtain ⟨_, its, n, rv, g⟩ := (show ObjOk P w H h a (.lst xs) from ok a _ e)
    obtain ⟨as, z⟩ := RdVs.reads ok q rv
    exact ⟨_, .list g rfl rfl (by simpa using z)⟩
  | _, _, _, .tup (a := a) (xs := xs) e q, r => by
    cases r
    obtain ⟨_, its, rv, o, g, c, n, d⟩ := (show ObjOk P w H h a (.tup xs) from ok a _ e)
    obtain ⟨as, z⟩ := RdVs.reads ok q rv
    exact ⟨_, .tuple g c d (by simpa using z)⟩
theorem RdVs.reads {P : Program} {w : World} {H : Hp} {h : Heap} (ok : HOk P w H h) : ∀ {xs : List V} {ds : List PyData} {us : List Value}, RdVs H xs ds → Vals xs us → ∃ as, ReadsAll h us ds as
  | _, _, _, .nil, r => by cases r; exact ⟨_, .nil⟩
  | _, _, _, .cons p q, r => by
    cases r with
    | cons r1 r2 =>
      obtain ⟨as, z⟩ := RdV.reads ok p r1
      obtain ⟨bs, z2⟩ := RdVs.reads ok q r2
      exact ⟨_, .cons z z2⟩
end
section
variable {X : Cx}
def rEqD : R2 := fun x y H Q => ∃ d e, RdV H x d ∧ RdV H y e ∧ SeqAt.shaped d = true ∧ SeqAt.shaped e = true ∧ Q (.bl (PyData.eqv d e)) H
def rNeD : R2 := fun x y H Q => ∃ d e, RdV H x d ∧ RdV H y e ∧ SeqAt.shaped d = true ∧ SeqAt.shaped e = true ∧ Q (.bl (!PyData.eqv d e)) H
theorem op_eqD (hu : X.A.units + 64 < cLine) : OpR X (compareOp .Eq) rEqD := by
  intro pins s σ H x y v u Q I rx ry h
  obtain ⟨d, e, r1, r2, s1, s2, q⟩ := h
  obtain ⟨as, z1⟩ := r1.reads I.hok rx
  obtain ⟨bs, z2⟩ := r2.reads I.hok ry
  exact eq_dataH z1 z2 s1 s2 hu ⟨.bl _, H, I, rfl, q⟩
theorem op_neD (hu : X.A.units + 64 < cLine) : OpR X (compareOp .NotEq) rNeD := by
  intro pins s σ H x y v u Q I rx ry h
  obtain ⟨d, e, r1, r2, s1, s2, q⟩ := h
  obtain ⟨as, z1⟩ := r1.reads I.hok rx
  obtain ⟨bs, z2⟩ := r2.reads I.hok ry
  exact ne_dataH z1 z2 s1 s2 hu ⟨.bl _, H, I, rfl, q⟩
end

/-! ### isinstance -/
def cV : V → Value
  | .ty n => .type n
  | .ref a => .ref a
  | _ => .none
section
variable {X : Cx}
end
end LX

set_option Elab.async false
set_option linter.all false
set_option maxRecDepth 100000
/-! My own additions to the hand layer, part E: readings that compute (no witness to be given). -/
namespace LX
open PySem PySem.Spec PyProof.Rows L2

section
variable {X : Cx} {a b c e o : Expr} {ta tb tc te : TE} {pos : Pos}
theorem PE.imp {t t' : TE} (h : PE X e t) (i : ∀ σ H Q, t' σ H Q → t σ H Q) : PE X e t' := fun pins s σ H Q I q => h pins s σ H Q I (i σ H Q q)
theorem PT.imp {t t' : TT} (h : PT X e t) (i : ∀ σ H Q, t' σ H Q → t σ H Q) : PT X e t' := fun pins s σ H Q I q => h pins s σ H Q I (i σ H Q q)
theorem PS.imp {st : Stmt} {t t' : TS} (h : PS X st t) (i : ∀ D σ H, t' D σ H → t D σ H) : PS X st t' := fun pins s σ H D I q => h pins s σ H D I (i D σ H q)
theorem OpR.imp {f : Value → Value → Sem Value} {r r' : R2} (h : OpR X f r) (i : ∀ x y H Q, r' x y H Q → r x y H Q) : OpR X f r' := fun pins s σ H x y v u Q I rx ry q => h pins s σ H x y v u Q I rx ry (i x y H Q q)
theorem UnR.imp {f : Value → Sem Value} {r r' : V → Hp → VK → Prop} (h : UnR X f r) (i : ∀ x H Q, r' x H Q → r x H Q) : UnR X f r' := fun pins s σ H x v Q I rx q => h pins s σ H x v Q I rx (i x H Q q)
theorem CallR.imp {f : Value} {r r' : List V → Hp → VK → Prop} (h : CallR X f r) (i : ∀ xs H Q, r' xs H Q → r xs H Q) : CallR X f r' := fun pins s σ H xs us Q I rx q => h pins s σ H xs us Q I rx (i xs H Q q)
theorem IxR.imp {r r' : R2} (h : IxR X r) (i : ∀ x y H Q, r' x y H Q → r x y H Q) : IxR X r' := fun value slice pins s σ H x y v u Q I rx ry q hs => h value slice pins s σ H x y v u Q I rx ry (i x y H Q q) hs

/-! ### names -/
def vU (i : Nat) : TE := fun σ H Q => match σ[i]? with | some (some v) => Q v H | _ => False
theorem pu (i : Nat) {x : Str} {pos : Pos} (hN : X.N[i]? = some x := by rfl) (hv : Vis X.env.scope x := by first | exact Or.inl rfl | exact Or.inr (Or.inl rfl) | exact Or.inr (Or.inr rfl)) (hd : (x == ("__debug__" : Str)) = false := by decide)
    (hcd : (x == ("__classdict__" : Str)) = false := by decide) : PE X (.Name x pos) (vU i) := PE.imp (pe_var hN hv hd hcd) fun σ H Q h => by
  unfold vU at h
  split at h
  · exact ⟨_, ‹_›, h⟩
  · exact h.elim

/-! ### operators -/
def rIU (g : Int → Int → V) : R2 := fun x y H Q => match x, y with | .int i, .int j => Q (g i j) H | _, _ => False
theorem rIU_to {g : Int → Int → V} : ∀ x y H Q, rIU g x y H Q → rI0 g x y H Q := fun x y H Q h => by
  cases x <;> cases y <;> first | exact ⟨_, _, rfl, rfl, h⟩ | exact h.elim
def rIC (C : Int → Int → Prop) (g : Int → Int → V) : R2 := fun x y H Q => match x, y with | .int i, .int j => C i j ∧ Q (g i j) H | _, _ => False
theorem rIC_to {C : Int → Int → Prop} {g : Int → Int → V} : ∀ x y H Q, rIC C g x y H Q → rI C g x y H Q := fun x y H Q h => by
  cases x <;> cases y <;> first | exact ⟨_, _, rfl, rfl, h⟩ | exact h.elim
theorem ou_mod : OpR X (binaryOp .Mod) (rIC (fun _ j => 0 < j) fun i j => .int (i % j)) := OpR.imp op_mod rIC_to
theorem ou_fdiv : OpR X (binaryOp .FloorDiv) (rIC CDiv fun i j => .int (i / j)) := OpR.imp op_fdiv rIC_to
theorem ou_lt : OpR X (compareOp .Lt) (rIU fun i j => .bl (decide (i < j))) := OpR.imp op_lt rIU_to
theorem ou_gt : OpR X (compareOp .Gt) (rIU fun i j => .bl (decide (j < i))) := OpR.imp op_gt rIU_to
def rAddU : R2 := fun x y H Q => match x, y with
  | .int i, .int j => Q (.int (i + j)) H
  | .str i, .str j => i.length + j.length ≤ sizeLine ∧ Q (.str (i ++ j)) H
  | .ref p, .ref q => (match H p, H q with | some (.lst xs), some (.lst zs) => xs.length + zs.length ≤ sizeLine ∧ ∀ l, H l = none → Q (.ref l) (upd H l (.lst (xs ++ zs))) | _, _ => False)
  | _, _ => False
theorem ou_add : OpR X (binaryOp .Add) rAddU := OpR.imp (OpR.or op_add (OpR.or op_add_str op_cat)) fun x y H Q h => by
  cases x <;> cases y <;> first
    | exact .inl ⟨_, _, rfl, rfl, h⟩
    | exact .inr (.inl ⟨_, _, rfl, rfl, h.1, h.2⟩)
    | exact h.elim
    | (unfold rAddU at h; dsimp only at h
       split at h
       · exact .inr (.inr ⟨_, _, _, _, rfl, rfl, ‹_›, ‹_›, h.1, h.2⟩)
       · exact h.elim)
def rMulU : R2 := fun x y H Q => match x, y with
  | .int i, .int j => CMul i j ∧ Q (.int (i * j)) H
  | .ref p, .int k => (match H p with | some (.lst xs) => -(2 ^ 63) ≤ k ∧ k < 2 ^ 63 ∧ xs.length * k.toNat ≤ sizeLine ∧ ∀ l, H l = none → Q (.ref l) (upd H l (.lst (List.replicate k.toNat xs).flatten)) | _ => False)
  | _, _ => False
def rNegU : V → Hp → VK → Prop := fun x H Q => match x with | .int i => Q (.int (-i)) H | _ => False
def rEqU : R2 := fun x y H Q => if scal x y = true then Q (.bl (decide (x = y))) H else rEqD x y H Q
def rNeU : R2 := fun x y H Q => if scal x y = true then Q (.bl (!decide (x = y))) H else rNeD x y H Q
theorem ou_eq (hu : X.A.units + 64 < cLine) : OpR X (compareOp .Eq) rEqU := OpR.imp (OpR.or op_eq (op_eqD hu)) fun x y H Q h => by
  unfold rEqU at h
  split at h
  · exact .inl ⟨‹_›, h⟩
  · exact .inr h
theorem ou_ne (hu : X.A.units + 64 < cLine) : OpR X (compareOp .NotEq) rNeU := OpR.imp (OpR.or op_ne (op_neD hu)) fun x y H Q h => by
  unfold rNeU at h
  split at h
  · exact .inl ⟨‹_›, h⟩
  · exact .inr h
def rIsNU : R2 := fun x y H Q => match y with | .non => Q (.bl (decide (x = .non))) H | _ => False
def rNotNU : R2 := fun x y H Q => match y with | .non => Q (.bl (!decide (x = .non))) H | _ => False
/-! ### tests -/
def bU : V → (Bool → Prop) → Prop := fun x k => match x with | .bl c => k c | _ => False
theorem bU_to {x : V} {k : Bool → Prop} (h : bU x k) : ∃ c, x = .bl c ∧ k c := by cases x <;> first | exact ⟨_, rfl, h⟩ | exact h.elim
def tTestU (t : TE) : TT := fun σ H Q => t σ H fun x H' => bU x fun k => Q k H'
theorem tu_cmp {op : CmpOp} {r : R2} (ho : OpR X (compareOp op) r) (ha : PE X a ta) (hb : PE X b tb) (hm : behindInMarks op b = false) : PT X (.Compare a [op] [b] pos) (tTestU (tOp r ta tb)) := by
  intro pins s σ H Q I h
  refine wpAny_isTrue_Compare1 (thn (ha pins s σ H _ I h) fun v s1 ⟨x, H1, I1, r1, q1⟩ => thn (hb pins s1 σ H1 _ I1 q1) fun u s2 ⟨y, H2, I2, r2, q2⟩ =>
    thn (ho pins s2 σ H2 x y v u _ I2 r1 r2 q2) fun z s3 ⟨t, H3, I3, r3, q3⟩ => ?_) hm
  obtain ⟨k, rfl, q⟩ := bU_to q3
  cases r3
  exact wpAny_truthy_bool ⟨H3, I3, q⟩
theorem tu_val {t : TE} (h : PE X e t) (he : ∀ whole, isTrue e X.env whole = (do let v ← whole; standAt e.pos; holding [v] (truthy v)) := by intro _; rfl) : PT X e (tTestU t) := by
  intro pins s σ H Q I q
  refine isTrue_plain (thn (h pins s σ H _ I q) fun v s1 ⟨x, H1, I1, r1, q1⟩ => ?_) (he _)
  obtain ⟨k, rfl, q⟩ := bU_to q1
  cases r1
  exact wpAny_truthy_bool ⟨H1, I1, q⟩
def tAndU (ta tb : TE) : TE := fun σ H Q => ta σ H fun x H1 => bU x fun c => if c = true then tb σ H1 Q else Q (.bl false) H1
def tOrU (ta tb : TE) : TE := fun σ H Q => ta σ H fun x H1 => bU x fun c => if c = true then Q (.bl true) H1 else tb σ H1 Q
def tNotU (ta : TE) : TE := fun σ H Q => ta σ H fun x H1 => bU x fun c => Q (.bl (!c)) H1
section
variable {rest : List Expr}
theorem eu_and (ha : PE X a ta) (hb : PE X (.BoolOp .And (b :: rest) pos) tb) : PE X (.BoolOp .And (a :: b :: rest) pos) (tAndU ta tb) := by
  intro pins s σ H Q I h
  refine BoolOp_and (thn (ha pins s σ H _ I h) fun v s1 ⟨x, H1, I1, r1, q1⟩ => ?_)
  obtain ⟨c, rfl, q2⟩ := bU_to q1
  cases r1
  refine wpAny_truthy_bool ?_
  cases c with
  | true => exact hb pins s1 σ H1 Q I1 (by simpa using q2)
  | false => exact ⟨.bl false, H1, I1, rfl, by simpa using q2⟩
theorem eu_not (ha : PE X a ta) : PE X (.UnaryOp .Not a pos) (tNotU ta) := by
  intro pins s σ H Q I h
  refine UnaryOp_ (thn (ha pins s σ H _ I h) fun v s1 ⟨x, H1, I1, r1, q1⟩ => ?_)
  obtain ⟨c, rfl, q1⟩ := bU_to q1
  cases r1
  exact not_of (wpAny_truthy_bool ⟨.bl (!c), H1, I1, rfl, q1⟩)
end

/-! ### fields -/
def fldU (K : PySem.W.Frag) (f : Str) : V → Hp → VK → Prop := fun x H Q => match x with
  | .ref a => (match H a with | some (.ins C _ fs) => Cls K C ∧ NoAttr K C f ∧ (match fs.lookup f with | some v => Q v H | none => False) | _ => False)
  | _ => False
def tFldU (K : PySem.W.Frag) (ta : TE) (f : Str) : TE := fun σ H Q => ta σ H fun x H1 => fldU K f x H1 Q
def setU (K : PySem.W.Frag) (f : Str) (x y : V) (H : Hp) (k : Hp → Prop) : Prop := match x with
  | .ref a => (match H a with | some (.ins C dx fs) => Cls K C ∧ NoAttr K C f ∧ fs.length < 1000 ∧ k (upd H a (.ins C dx (putF f y fs))) | _ => False)
  | _ => False
def sFldU (K : PySem.W.Frag) (ta tv : TE) (f : Str) : TS := fun D σ H => tv σ H fun y H1 => ta σ H1 fun x H2 => setU K f x y H2 (D.nx σ)
def iaddU : V → V → Hp → VK → Prop := fun x y H Q => match x, y with | .int i, .int j => Q (.int (i + j)) H | _, _ => False
def sFldAugU (K : PySem.W.Frag) (ta tv : TE) (rd : V → V → Hp → VK → Prop) (f : Str) : TS := fun D σ H => ta σ H fun x H1 => fldU K f x H1 fun v H1' => tv σ H1' fun y H2 => rd v y H2 fun z H3 => setU K f x z H3 (D.nx σ)
/-! ### own methods -/
def recU (C : Addr) (m : Str) (x : V) (H : Hp) (k : Prop) : Prop := match x with
  | .ref a => (match H a with | some (.ins C' _ fs) => C' = C ∧ fs.lookup m = none ∧ k | _ => False)
  | _ => False
def tMethU (C : Addr) (m : Str) (sp : Sp) (E : L2.St → XK) (ta : TE) (t : TA) : TE := fun σ H Q => ta σ H fun x H1 => recU C m x H1 (t σ H1 fun vs H2 => sp (x :: vs) H2 Q (E σ))
section
variable {CX : CXT} {k : Nat} {f C : Addr} {fd : FuncData} {ps : List Str} {sp : Sp} {E : L2.St → XK} {x m : Str} {p apos : Pos} {es : List Expr} {t : TA}
def tCallU (sp : Sp) (E : L2.St → XK) (t : TA) : TE := fun σ H Q => t σ H fun vs H1 => sp vs H1 Q (E σ)
theorem eu_call (F : FnOk X.prog X.w X.K X.mg X.base CX k f fd ps sp) (hr : Room k X.A) (hg : Gl X x) (hm : X.mg x = some (.ref f)) (hk : PySem.W.keepIn X.K (.ref f) = true) (hb : Binds X.K fd ps []) (hx : PassesX CX X E)
    (ha : PA X (e :: es) t) (hdb : (x == ("__debug__" : Str)) = false := by decide) (he : starEach (e :: es) X.env = (false, eval e X.env) :: starEach es X.env := by rfl) (hpl : (backTo pos (starEach es X.env)).any (·.1) = false := by rfl) :
    PE X (.Call (.Name x p) (e :: es) [] pos) (tCallU sp E t) := by
  intro pins s σ H Q I h
  refine pe_callX (dvs := []) F hr hg hm hk hb .nil hx ha hdb he hpl pins s σ H Q I ?_
  show t σ H fun vs H1 => sp (vs ++ []) H1 Q (E σ)
  simp only [List.append_nil]
  exact h
def tMakeU (C : Addr) (sp : Sp) (E : L2.St → XK) (t : TA) : TE := fun σ H Q => t σ H fun vs H1 => ∀ x dx, H1 x = none → H1 dx = none → dx ≠ x →
  sp (.ref x :: vs) (upd (upd H1 dx (.own x)) x (.ins C dx [])) (fun v H2 => v = .non ∧ Q (.ref x) H2) (E σ)
end

/-! ### dicts -/
def keyOf : V → Option Key
  | .int i => some (.inl i)
  | .str x => some (.inr x)
  | _ => none
theorem keyOf_to {y : V} {k : Key} (h : keyOf y = some k) : y = kV k := by
  cases y <;> first | (cases h; rfl) | cases h
def dgU (x y : V) (H : Hp) (Q : VK) : Prop := match x with
  | .ref a => (match H a with | some (.dK kvs) => (match keyOf y with | some k => (match valV kvs k with | some v => Q v H | none => False) | none => False) | _ => False)
  | _ => False
def tDGetU (td ty : TE) : TE := fun σ H Q => td σ H fun x H1 => ty σ H1 fun y H2 => dgU x y H2 Q
def dpU (x y v : V) (H : Hp) (k : Hp → Prop) : Prop := match x with
  | .ref a => (match H a with | some (.dK kvs) => (match keyOf y with | some q => kvs.length < sizeLine ∧ k (upd H a (.dK (putK kvs q v))) | none => False) | _ => False)
  | _ => False
def sDPutU (td ty tv : TE) : TS := fun D σ H => tv σ H fun v H1 => td σ H1 fun x H2 => ty σ H2 fun y H3 => dpU x y v H3 (D.nx σ)
def lpU (x y v : V) (H : Hp) (k : Hp → Prop) : Prop := match x, y with
  | .ref p, .int i => (match H p with | some (.lst xs) => (match ixN xs.length i with | some j => k (upd H p (.lst (xs.set j v))) | none => False) | _ => False)
  | _, _ => False
def sLPutU (td ty tv : TE) : TS := fun D σ H => tv σ H fun v H1 => td σ H1 fun x H2 => ty σ H2 fun y H3 => lpU x y v H3 (D.nx σ)
/-! ### items, lengths, copies -/
def ixU : R2 := fun x y H Q => match x, y with
  | .ref p, .int i => (match H p with
    | some (.lst xs) => (match atI xs i with | some v => Q v H | none => False)
    | some (.tup xs) => (match atI xs i with | some v => Q v H | none => False)
    | _ => False)
  | _, _ => False
theorem xu_seq : IxR X ixU := IxR.imp (IxR.or ix_list ix_tup) fun x y H Q h => by
  unfold ixU at h
  split at h
  · split at h
    · split at h
      · exact .inl ⟨_, _, _, _, rfl, rfl, .inl (.inl ‹_›), ‹_›, h⟩
      · exact h.elim
    · split at h
      · exact .inr ⟨_, _, _, _, rfl, rfl, .inl (.inl ‹_›), ‹_›, h⟩
      · exact h.elim
    · exact h.elim
  · exact h.elim
theorem eu_ix {i : Expr} {ti : TE} {r : R2} (hr : IxR X r) (ha : PE X a ta) (hb : PE X i ti) (hs : PlainIx i := by intro _ _; rfl) : PE X (.Subscript a i pos) (tOp r ta ti) := pe_ix hr ha hb hs
def lenU : List V → Hp → VK → Prop := fun xs H Q => match xs with
  | [.ref p] => (match H p with | some (.lst ys) => Q (.int ys.length) H | some (.tup ys) => Q (.int ys.length) H | some (.dK ks) => Q (.int ks.length) H | _ => False)
  | [.str z] => z.length ≤ sizeLine ∧ Q (.int z.length) H
  | _ => False
theorem cu_len : CallR X (.builtin "len") lenU := CallR.imp (CallR.or call_len_seq (CallR.or call_lenD call_len_str)) fun xs H Q h => by
  unfold lenU at h
  split at h
  · split at h
    · exact .inl ⟨_, _, rfl, .inl (.inl (.inl ‹_›)), h⟩
    · exact .inl ⟨_, _, rfl, .inr (.inl (.inl ‹_›)), h⟩
    · exact .inr (.inl ⟨_, _, rfl, ‹_›, h⟩)
    · exact h.elim
  · exact .inr (.inr ⟨_, rfl, h.1, h.2⟩)
  · exact h.elim
def listU : List V → Hp → VK → Prop := fun xs H Q => match xs with
  | [.ref p] => (match H p with | some (.lst ys) => ∀ l, H l = none → Q (.ref l) (upd H l (.lst ys)) | some (.tup ys) => ∀ l, H l = none → Q (.ref l) (upd H l (.lst ys)) | _ => False)
  | _ => False
def intU : List V → Hp → VK → Prop := fun xs H Q => match xs with
  | [.int i] => Q (.int i) H
  | [.bl k] => Q (.int (if k then 1 else 0)) H
  | _ => False
end
end LX

set_option Elab.async false
set_option linter.all false
set_option maxRecDepth 100000
/-! My own additions to the hand layer, part F: all, isinstance, min; heaps. -/
namespace LX
open PySem PySem.Spec PyProof.Rows L2

section
variable {X : Cx}
def isBl : V → Bool
  | .bl _ => true
  | _ => false
def isTr : V → Bool
  | .bl true => true
  | _ => false
def allU : List V → Hp → VK → Prop := fun xs H Q => match xs with
  | [.ref p] => (match H p with | some (.lst ys) => ys.all isBl = true ∧ Q (.bl (ys.all isTr)) H | _ => False)
  | _ => False
/-! ### isinstance -/
def tyO (H : Hp) : V → Option Value
  | .non => some (.type "NoneType")
  | .bl _ => some (.type "bool")
  | .int _ => some (.type "int")
  | .str _ => some (.type "str")
  | .ref a => (match H a with | some (.lst _) => some (.type "list") | some (.tup _) => some (.type "tuple") | some (.dK _) => some (.type "dict") | _ => none)
  | _ => none
def okC : V → Bool
  | .ty _ => true
  | .ref _ => true
  | _ => false
def isiU (K : PySem.W.Frag) : List V → Hp → VK → Prop := fun xs H Q => match xs with
  | [x, c] => okC c = true ∧ (match tyO H x with | some t => (match PySem.W.kitOne K t (cV c) with | some b => Q (.bl b) H | none => False) | none => False)
  | _ => False
def minU : List V → Hp → VK → Prop := fun xs H Q => match xs with
  | [.int i, .int j] => Q (.int (if j < i then j else i)) H
  | _ => False
end

/-! ### heaps -/
theorem upd_new {H : Hp} {l p : Addr} {o u : HO} (hl : H l = none) (hp : H p = some u) : upd H l o p = some u := by rw [upd_ne (ne_of_none hp hl)]; exact hp
theorem same_new {H : Hp} {l : Addr} {o : HO} (hl : H l = none) : Same H (upd H l o) := fun b u e => upd_new hl e
def But (xs : List Addr) (H H' : Hp) : Prop := ∀ b o, H b = some o → b ∉ xs → H' b = some o
theorem But.refl (xs : List Addr) (H : Hp) : But xs H H := fun _ _ e _ => e
theorem But.same {xs : List Addr} {H H' : Hp} (s : Same H H') : But xs H H' := fun b o e _ => s b o e
theorem But.trans {xs : List Addr} {H H1 H2 : Hp} (a : But xs H H1) (b : But xs H1 H2) : But xs H H2 := fun c o e n => b c o (a c o e n) n
theorem But.upd {xs : List Addr} {H : Hp} {a : Addr} {o : HO} (h : a ∈ xs) : But xs H (L2.upd H a o) := fun b u e n => by rw [upd_ne (fun z : b = a => n (by rw [z]; exact h))]; exact e
theorem But.mono {xs ys : List Addr} {H H' : Hp} (a : But xs H H') (s : ∀ x ∈ xs, x ∈ ys) : But ys H H' := fun b o e n => a b o e fun z => n (s b z)
end LX

/-! The mathematics of the flight: the program's object and the laws' plain model, and that they agree. No library. -/
namespace Lf

structure Fl where
  high : List Bool
  inside : List (Option Int)
  up : List Int
  down : List Int
  sides : List Bool
  gone : List Int
  drawn : Int
  out : Int

structure Md where
  high : List Bool
  sides : List Bool
  places : List (Int × Int)
  through : List Int
  drawn : Int
  out : Int

def isCh (n : Nat) (p : Int) : Bool := decide (0 < p) && decide (p < (n : Int) + 1)
def canGive (h : List Bool) (p : Int) : Bool := if isCh h.length p then h.getD (p - 1).toNat false else true
def canTake (h : List Bool) (p : Int) : Bool := if isCh h.length p then !h.getD (p - 1).toNat false else true
inductive LetR | noGate | noFall | done
  deriving DecidableEq
def letOut (h : List Bool) (g : Int) : LetR :=
  if g < 0 ∨ (h.length : Int) + 1 ≤ g then .noGate else if !canGive h (g + 1) then .noFall else if !canTake h g then .noFall else .done
def giveH (h : List Bool) (p : Int) : List Bool := if isCh h.length p then h.set (p - 1).toNat false else h
def takeH (h : List Bool) (p : Int) : List Bool := if isCh h.length p then h.set (p - 1).toNat true else h
def letH (h : List Bool) (g : Int) : List Bool := takeH (giveH h (g + 1)) g
def Fl.let (f : Fl) (g : Int) : Fl := { f with high := letH f.high g, drawn := f.drawn + (if isCh f.high.length (g + 1) then 0 else 1), out := f.out + (if isCh f.high.length g then 0 else 1) }

def Md.let (m : Md) (g : Int) : Md :=
  { m with high := (if 0 < g then (if g < m.high.length then m.high.set g.toNat false else m.high).set (g - 1).toNat true else (if g < m.high.length then m.high.set g.toNat false else m.high)),
           drawn := m.drawn + (if g = m.high.length then 1 else 0), out := m.out + (if g = 0 then 1 else 0) }

theorem isCh_true {n : Nat} {p : Int} (h1 : 0 < p) (h2 : p < (n : Int) + 1) : isCh n p = true := by simp [isCh, h1, h2]
theorem isCh_lo {n : Nat} {p : Int} (h1 : p ≤ 0) : isCh n p = false := by
  have : ¬ 0 < p := by omega
  simp [isCh, this]
theorem isCh_hi {n : Nat} {p : Int} (h1 : (n : Int) + 1 ≤ p) : isCh n p = false := by
  have : ¬ p < (n : Int) + 1 := by omega
  simp [isCh, this]

theorem letH_len (h : List Bool) (g : Int) : (letH h g).length = h.length := by
  unfold letH takeH giveH
  split <;> split <;> simp

theorem let_done {h : List Bool} {g : Int} (d : letOut h g = .done) : 0 ≤ g ∧ g ≤ h.length ∧ canGive h (g + 1) = true ∧ canTake h g = true := by
  unfold letOut at d
  split at d
  · cases d
  · rename_i c
    split at d
    · cases d
    · rename_i c1
      split at d
      · cases d
      · rename_i c2
        refine ⟨by omega, by omega, ?_, ?_⟩
        · simpa using c1
        · simpa using c2

theorem let_same {m : Md} {g : Int} (h0 : 0 ≤ g) (h1 : g ≤ m.high.length) : (m.let g).high = letH m.high g := by
  unfold Md.let letH takeH giveH
  simp only
  by_cases a : g < m.high.length
  · rw [if_pos a, isCh_true (show (0:Int) < g + 1 by omega) (by omega), if_pos rfl, show (g + 1 - 1) = g by omega]
    by_cases z : 0 < g
    · rw [if_pos z, isCh_true z (by rw [List.length_set]; omega), if_pos rfl]
    · rw [if_neg z, isCh_lo (by omega)]; rfl
  · rw [if_neg a, isCh_hi (show (m.high.length : Int) + 1 ≤ g + 1 by omega)]
    simp only [Bool.false_eq_true, if_false]
    by_cases z : 0 < g
    · rw [if_pos z, isCh_true z (by omega), if_pos rfl]
    · rw [if_neg z, isCh_lo (by omega)]; rfl

/-! ### boats -/
def Fl.new (h : List Bool) : Fl := ⟨h, List.replicate h.length none, [], [], [], [], 0, 0⟩
def Md.new (h : List Bool) : Md := ⟨h, [], [], [], 0, 0⟩
def Md.keys (m : Md) : List Int := m.places.map (·.1)
def Md.side (m : Md) (b : Int) : Bool := m.sides.getD b.toNat false
def Md.ahead (m : Md) (b here : Int) : List Int := m.keys.filter fun one => (m.places.lookup one == some here) && (m.side one == m.side b) && decide (one < b)
def Md.come (m : Md) (side : Bool) : Md := { m with sides := m.sides ++ [side], places := m.places ++ [((m.sides.length : Int), if side then (m.high.length : Int) + 1 else 0)] }

def Fl.row (f : Fl) (side : Bool) : List Int := if side then f.down else f.up
def Fl.place? (f : Fl) (b : Int) : Option Int :=
  if b ∈ f.up then some 0 else if b ∈ f.down then some ((f.high.length : Int) + 1) else if some b ∈ f.inside then some ((f.inside.idxOf (some b) : Int) + 1) else none
def Fl.side (f : Fl) (b : Int) : Bool := f.sides.getD b.toNat false
def Fl.leave (f : Fl) (here : Int) (side : Bool) : Fl :=
  if isCh f.high.length here then { f with inside := f.inside.set (here - 1).toNat none } else if side then { f with down := f.down.drop 1 } else { f with up := f.up.drop 1 }
def Fl.come (f : Fl) (side : Bool) : Fl := { f with sides := f.sides ++ [side], up := if side then f.up else f.up ++ [(f.sides.length : Int)], down := if side then f.down ++ [(f.sides.length : Int)] else f.down }

structure Rel (f : Fl) (m : Md) : Prop where
  high : f.high = m.high
  sides : f.sides = m.sides
  gone : f.gone = m.through
  drawn : f.drawn = m.drawn
  out : f.out = m.out
  len : f.inside.length = f.high.length
  asc : m.keys.Pairwise (· < ·)
  key : ∀ x ∈ m.places, 0 ≤ x.1 ∧ x.1 < (m.sides.length : Int)
  rng : ∀ x ∈ m.places, 0 ≤ x.2 ∧ x.2 ≤ (m.high.length : Int) + 1
  lo : ∀ x ∈ m.places, x.2 = 0 → m.side x.1 = false
  hi : ∀ x ∈ m.places, x.2 = (m.high.length : Int) + 1 → m.side x.1 = true
  up : f.up = (m.places.filter fun x => decide (x.2 = 0)).map (·.1)
  down : f.down = (m.places.filter fun x => decide (x.2 = (m.high.length : Int) + 1)).map (·.1)
  ins : ∀ (k : Nat) (b : Int), k < m.high.length → (f.inside[k]? = some (some b) ↔ (b, (k : Int) + 1) ∈ m.places)
  one : ∀ x ∈ m.places, ∀ y ∈ m.places, x.2 = y.2 → 0 < x.2 → x.2 ≤ m.high.length → x.1 = y.1

theorem lookup_mem {l : List (Int × Int)} {b p : Int} (h : l.lookup b = some p) : (b, p) ∈ l := by
  induction l with
  | nil => cases h
  | cons x r ih =>
    obtain ⟨c, q⟩ := x
    rw [List.lookup_cons] at h
    cases e : b == c with
    | true => rw [e] at h; cases h; rw [beq_iff_eq.mp e]; exact List.mem_cons_self
    | false => rw [e] at h; exact List.mem_cons_of_mem _ (ih h)
theorem mem_lookup {l : List (Int × Int)} {b p : Int} (nd : (l.map (·.1)).Pairwise (· < ·)) (h : (b, p) ∈ l) : l.lookup b = some p := by
  induction l with
  | nil => cases h
  | cons x r ih =>
    obtain ⟨c, q⟩ := x
    rw [List.map_cons, List.pairwise_cons] at nd
    rw [List.lookup_cons]
    rcases List.mem_cons.mp h with e | e
    · cases e; simp
    · have : c < b := nd.1 b (List.mem_map.mpr ⟨_, e, rfl⟩)
      have : (b == c) = false := by simp; omega
      rw [this]
      exact ih nd.2 e
theorem lookup_none {l : List (Int × Int)} {b : Int} (h : l.lookup b = none) : ∀ p, (b, p) ∉ l := by
  induction l with
  | nil => intro p h; cases h
  | cons x r ih =>
    obtain ⟨c, q⟩ := x
    rw [List.lookup_cons] at h
    intro p hp
    cases e : b == c with
    | true => rw [e] at h; cases h
    | false =>
      rw [e] at h
      rcases List.mem_cons.mp hp with z | z
      · cases z; simp at e
      · exact ih h p z

section
variable {f : Fl} {m : Md}
theorem Rel.place (R : Rel f m) (b : Int) : f.place? b = m.places.lookup b := by
  have hup : b ∈ f.up ↔ (b, 0) ∈ m.places := by
    rw [R.up]; simp only [List.mem_map, List.mem_filter, decide_eq_true_eq]
    constructor
    · rintro ⟨⟨c, q⟩, ⟨h1, h2⟩, h3⟩; simp only at h2 h3; subst h2 h3; exact h1
    · intro h; exact ⟨(b, 0), ⟨h, rfl⟩, rfl⟩
  have hdn : b ∈ f.down ↔ (b, (m.high.length : Int) + 1) ∈ m.places := by
    rw [R.down]; simp only [List.mem_map, List.mem_filter, decide_eq_true_eq]
    constructor
    · rintro ⟨⟨c, q⟩, ⟨h1, h2⟩, h3⟩; simp only at h2 h3; subst h2 h3; exact h1
    · intro h; exact ⟨(b, _), ⟨h, rfl⟩, rfl⟩
  unfold Fl.place?
  cases e : m.places.lookup b with
  | none =>
    have nn := lookup_none e
    rw [if_neg (fun h => nn _ (hup.mp h)), if_neg (fun h => nn _ (hdn.mp h)), if_neg]
    intro h
    obtain ⟨k, hk, e1⟩ := List.mem_iff_getElem.mp h
    exact nn _ ((R.ins k b (by rw [← R.high, ← R.len]; exact hk)).mp (by rw [List.getElem?_eq_getElem hk, e1]))
  | some p =>
    have hm := lookup_mem e
    obtain ⟨r1, r2⟩ := R.rng _ hm
    have uniq : ∀ q, (b, q) ∈ m.places → q = p := fun q hq => by
      have := mem_lookup R.asc hq; rw [e] at this; exact (Option.some.inj this).symm
    by_cases z : p = 0
    · subst z; rw [if_pos (hup.mpr hm)]
    · rw [if_neg (fun h => z (uniq _ (hup.mp h)).symm)]
      by_cases z2 : p = (m.high.length : Int) + 1
      · subst z2; rw [if_pos (hdn.mpr hm), R.high]
      · rw [if_neg (fun h => z2 (uniq _ (hdn.mp h)).symm)]
        have hk : (p - 1).toNat < m.high.length := by simp only at r1 r2; omega
        have hp1 : (((p - 1).toNat : Nat) : Int) + 1 = p := by simp only at r1; omega
        have hi : f.inside[(p - 1).toNat]? = some (some b) := (R.ins _ b hk).mpr (by rw [hp1]; exact hm)
        have mem : some b ∈ f.inside := List.mem_of_getElem? hi
        rw [if_pos mem]
        have hidx : f.inside.idxOf (some b) < f.inside.length := List.idxOf_lt_length_of_mem mem
        have h2 : f.inside[f.inside.idxOf (some b)]? = some (some b) := by
          rw [List.getElem?_eq_getElem hidx, List.getElem_idxOf hidx]
        have := uniq _ ((R.ins _ b (by rw [← R.high, ← R.len]; exact hidx)).mp h2)
        rw [← this]

theorem Rel.side (R : Rel f m) (b : Int) : f.side b = m.side b := by unfold Fl.side Md.side; rw [R.sides]

end

theorem Rel.new (h : List Bool) : Rel (Fl.new h) (Md.new h) := by
  refine ⟨rfl, rfl, rfl, rfl, rfl, by simp [Fl.new], List.Pairwise.nil, ?_, ?_, ?_, ?_, rfl, rfl, ?_, ?_⟩
  · intro x hx; cases hx
  · intro x hx; cases hx
  · intro x hx; cases hx
  · intro x hx; cases hx
  · intro k b hk
    constructor
    · intro e
      simp only [Fl.new, List.getElem?_replicate] at e
      split at e <;> cases e
    · intro e; cases e
  · intro x hx; cases hx

section
variable {f : Fl} {m : Md}
theorem Rel.let (R : Rel f m) {g : Int} (d : letOut m.high g = .done) : Rel (f.let g) (m.let g) := by
  obtain ⟨h0, h1, _, _⟩ := let_done d
  have eh : (f.let g).high = (m.let g).high := by rw [let_same h0 h1]; show letH f.high g = _; rw [R.high]
  have el : (m.let g).high.length = m.high.length := by rw [let_same h0 h1, letH_len]
  have efl : (f.let g).high.length = f.high.length := by rw [eh, el, R.high]
  refine ⟨eh, R.sides, R.gone, ?_, ?_, ?_, R.asc, R.key, ?_, R.lo, ?_, R.up, ?_, ?_, ?_⟩
  · show f.drawn + _ = m.drawn + _
    rw [R.drawn, R.high]
    by_cases e : g = m.high.length
    · rw [if_pos e, isCh_hi (by omega)]; rfl
    · rw [if_neg e, isCh_true (by omega) (by omega)]; rfl
  · show f.out + _ = m.out + _
    rw [R.out, R.high]
    by_cases e : g = 0
    · rw [if_pos e, isCh_lo (by omega)]; rfl
    · rw [if_neg e, isCh_true (by omega) (by omega)]; rfl
  · rw [efl]; exact R.len
  · rw [el]; exact R.rng
  · rw [el]; exact R.hi
  · rw [el]; exact R.down
  · rw [el]; exact R.ins
  · rw [el]; exact R.one

theorem side_app {s : List Bool} {z : Bool} {b : Int} (h0 : 0 ≤ b) (h1 : b < s.length) : (s ++ [z]).getD b.toNat false = s.getD b.toNat false := by
  have : b.toNat < s.length := by omega
  simp [List.getD, List.getElem?_append, this]
theorem side_last {s : List Bool} {z : Bool} : (s ++ [z]).getD ((s.length : Int)).toNat false = z := by
  simp [List.getD, List.getElem?_append]

theorem Rel.come (R : Rel f m) (s : Bool) : Rel (f.come s) (m.come s) := by
  have hs : ∀ x ∈ m.places, (m.come s).side x.1 = m.side x.1 := fun x hx => side_app (R.key x hx).1 (R.key x hx).2
  have hl : (m.come s).side (m.sides.length : Int) = s := side_last
  have hn : (m.high.length : Int) + 1 ≠ 0 := by omega
  have mem : ∀ x, x ∈ (m.come s).places ↔ x ∈ m.places ∨ x = ((m.sides.length : Int), if s then (m.high.length : Int) + 1 else 0) := fun x => by
    unfold Md.come; simp only [List.mem_append, List.mem_singleton]
  refine ⟨R.high, ?_, R.gone, R.drawn, R.out, R.len, ?_, ?_, ?_, ?_, ?_, ?_, ?_, ?_, ?_⟩
  · show f.sides ++ [s] = m.sides ++ [s]; rw [R.sides]
  · show ((m.places ++ [(_ : Int × Int)]).map (fun x : Int × Int => x.1)).Pairwise (· < ·)
    rw [List.map_append, List.pairwise_append]
    refine ⟨R.asc, List.pairwise_singleton _ _, fun a ha b hb => ?_⟩
    obtain ⟨x, hx, rfl⟩ := List.mem_map.mp ha
    have : b = (m.sides.length : Int) := by simpa using hb
    subst this
    exact (R.key x hx).2
  · intro x hx
    have e : ((m.come s).sides.length : Int) = (m.sides.length : Int) + 1 := by show ((m.sides ++ [s]).length : Int) = _; simp
    rw [e]
    rcases (mem x).mp hx with z | z
    · have := R.key x z; omega
    · subst z; simp only; omega
  · intro x hx
    show 0 ≤ x.2 ∧ x.2 ≤ (m.high.length : Int) + 1
    rcases (mem x).mp hx with z | z
    · exact R.rng x z
    · subst z; simp only; cases s <;> simp <;> omega
  · intro x hx e
    rcases (mem x).mp hx with z | z
    · rw [hs x z]; exact R.lo x z e
    · subst z
      simp only at e ⊢
      rw [hl]
      cases s with
      | false => rfl
      | true => simp at e; omega
  · intro x hx e
    rcases (mem x).mp hx with z | z
    · rw [hs x z]; exact R.hi x z e
    · subst z
      simp only at e ⊢
      rw [hl]
      cases s with
      | true => rfl
      | false =>
        have e : (0 : Int) = ((m.come false).high.length : Int) + 1 := by simpa using e
        have e2 : (m.come false).high.length = m.high.length := rfl
        omega
  · show (if s then f.up else f.up ++ [(f.sides.length : Int)]) = ((m.places ++ [_]).filter _).map _
    rw [List.filter_append, List.map_append, ← R.up, R.sides]
    cases s with
    | false => simp
    | true => simp [hn]
  · show (if s then f.down ++ [(f.sides.length : Int)] else f.down) = ((m.places ++ [_]).filter _).map _
    have e : (m.come s).high.length = m.high.length := rfl
    rw [List.filter_append, List.map_append]
    show _ = (m.places.filter fun x => decide (x.2 = (m.high.length : Int) + 1)).map (·.1) ++ _
    rw [← R.down, R.sides]
    cases s with
    | true => simp [e]
    | false =>
      have : ¬ (0 : Int) = ((m.come false).high.length : Int) + 1 := by rw [e]; omega
      simp [this]
  · intro k b hk
    have hk' : k < m.high.length := hk
    show f.inside[k]? = _ ↔ _
    rw [R.ins k b hk', mem]
    constructor
    · exact .inl
    · rintro (z | z)
      · exact z
      · exfalso
        have z2 := congrArg Prod.snd z
        simp only at z2
        cases s <;> simp at z2 <;> omega
  · intro x hx y hy e h1 h2
    have h2' : x.2 ≤ (m.high.length : Int) := h2
    have nope : ∀ z : Int × Int, z = ((m.sides.length : Int), if s then (m.high.length : Int) + 1 else 0) → 0 < z.2 → z.2 ≤ m.high.length → False := fun z e a b => by
      subst e
      cases s <;> simp at a b <;> omega
    rcases (mem x).mp hx with zx | zx
    · rcases (mem y).mp hy with zy | zy
      · exact R.one x zx y zy e h1 h2'
      · exact (nope y zy (by omega) (by omega)).elim
    · exact (nope x zx h1 h2').elim

end

/-! ### water -/
def cnt (h : List Bool) : Int := (h.count true : Nat)
theorem cnt_set : ∀ {h : List Bool} {i : Nat} {a : Bool} (b : Bool), h[i]? = some a → cnt (h.set i b) = cnt h + (if b then 1 else 0) - (if a then 1 else 0)
  | [], i, a, b, e => by simp at e
  | x :: h, 0, a, b, e => by
    simp at e; subst e
    unfold cnt
    simp only [List.set_cons_zero, List.count_cons]
    cases x <;> cases b <;> simp <;> omega
  | x :: h, i + 1, a, b, e => by
    have ih := cnt_set (h := h) (i := i) (a := a) b (by simpa using e)
    unfold cnt at ih ⊢
    simp only [List.set_cons_succ, List.count_cons]
    cases x <;> simp at ih ⊢ <;> omega
theorem getD_some {h : List Bool} {i : Nat} {a : Bool} (hi : i < h.length) (e : h.getD i false = a) : h[i]? = some a := by
  rw [List.getD_eq_getElem?_getD, List.getElem?_eq_getElem hi, Option.getD_some] at e
  rw [List.getElem?_eq_getElem hi, e]

end Lf

/-! How a boat moves, case by case; the rows of each side. -/
namespace Lf
/-! ### the rows of a side -/
def Fl.within (f : Fl) (sd : Bool) : List Int :=
  if sd then (f.inside.filterMap id).filter (fun b => f.side b == sd) else ((f.inside.filterMap id).filter (fun b => f.side b == sd)).reverse
def Fl.rowOf (f : Fl) (sd : Bool) : List Int := f.gone.filter (fun b => f.side b == sd) ++ f.within sd ++ f.row sd
def Fl.came (f : Fl) (sd : Bool) : List Int := ((List.range f.sides.length).map fun (k : Nat) => (k : Int)).filter (fun b => f.side b == sd)
def Ord (f : Fl) : Prop := ∀ sd, f.rowOf sd = f.came sd
theorem Ord.new (h : List Bool) : Ord (Fl.new h) := by
  intro sd
  have : ∀ n, (List.replicate n (none : Option Int)).filterMap id = [] := fun n => by induction n <;> simp_all [List.replicate_succ]
  unfold Fl.rowOf Fl.within Fl.came Fl.row Fl.new
  cases sd <;> simp [this]
theorem Ord.let {f : Fl} (o : Ord f) (g : Int) : Ord (f.let g) := o
theorem Ord.mem {f : Fl} (o : Ord f) {b : Int} {sd : Bool} (h : b ∈ f.rowOf sd) : 0 ≤ b ∧ b < (f.sides.length : Int) := by
  rw [o sd] at h
  obtain ⟨k, hk, rfl⟩ := List.mem_map.mp (List.mem_filter.mp h).1
  have := List.mem_range.mp hk
  omega
theorem Ord.gone {f : Fl} (o : Ord f) {b : Int} (h : b ∈ f.gone) : 0 ≤ b ∧ b < (f.sides.length : Int) :=
  o.mem (sd := f.side b) (by unfold Fl.rowOf; simp [h])
theorem Ord.ins {f : Fl} (o : Ord f) {b : Int} (h : some b ∈ f.inside) : 0 ≤ b ∧ b < (f.sides.length : Int) :=
  o.mem (sd := f.side b) (by unfold Fl.rowOf Fl.within; cases e : f.side b <;> simp [h, e])
theorem Ord.come {f : Fl} (o : Ord f) (s : Bool) : Ord (f.come s) := by
  intro sd
  have a1 : ∀ b : Int, 0 ≤ b ∧ b < (f.sides.length : Int) → (f.come s).side b = f.side b := fun b h => side_app h.1 h.2
  have a2 : (f.come s).gone.filter (fun b => (f.come s).side b == sd) = f.gone.filter (fun b => f.side b == sd) :=
    List.filter_congr fun b hb => by rw [a1 b (o.gone hb)]
  have a3 : ((f.come s).inside.filterMap id).filter (fun b => (f.come s).side b == sd) = (f.inside.filterMap id).filter (fun b => f.side b == sd) :=
    List.filter_congr fun b hb => by rw [a1 b (o.ins (show some b ∈ (f.come s).inside by simpa using hb))]
  have a4 : (f.come s).came sd = f.came sd ++ if s == sd then [(f.sides.length : Int)] else [] := by
    unfold Fl.came
    have e : (f.come s).sides.length = f.sides.length + 1 := by unfold Fl.come; simp
    rw [e, List.range_succ, List.map_append, List.filter_append]
    congr 1
    · refine List.filter_congr fun b hb => ?_
      obtain ⟨k, hk, rfl⟩ := List.mem_map.mp hb
      have := List.mem_range.mp hk
      rw [a1 _ ⟨by omega, by omega⟩]
    · have : (f.come s).side (f.sides.length : Int) = s := side_last
      simp [List.filter_cons, this]
  have a5 : (f.come s).row sd = f.row sd ++ if s == sd then [(f.sides.length : Int)] else [] := by
    unfold Fl.row Fl.come
    cases s <;> cases sd <;> simp
  have := o sd
  rw [a4, ← this]
  unfold Fl.rowOf Fl.within
  rw [a2, a3, a5]
  cases sd <;> simp
end Lf

/-! No order of the boats that are through costs less than was drawn. -/
namespace Lf
def cost1 (h : List Bool) (dn : Bool) : Int := if dn then (if h.getLastD true then 0 else 1) else 1 + ((h.drop 1).count false : Nat)
def costSt (x : List Bool × Int) (d : Bool) : List Bool × Int := (x.1.map fun _ => !d, x.2 + cost1 x.1 d)
def costOf (h S : List Bool) : Int := (S.foldl costSt (h, 0)).2
def aft (h S : List Bool) : List Bool := (S.foldl costSt (h, 0)).1
theorem costOf_nil (h : List Bool) : costOf h [] = 0 := rfl
theorem costOf_snoc (h S : List Bool) (d : Bool) : costOf h (S ++ [d]) = costOf h S + cost1 (aft h S) d := by
  unfold costOf aft; rw [List.foldl_append]; rfl
theorem aft_snoc (h S : List Bool) (d : Bool) : aft h (S ++ [d]) = (aft h S).map fun _ => !d := by
  unfold aft; rw [List.foldl_append]; rfl
theorem aft_len (h : List Bool) (S : List Bool) : (aft h S).length = h.length := by
  unfold aft
  have : ∀ (S : List Bool) (x : List Bool × Int), (S.foldl costSt x).1.length = x.1.length := by
    intro S
    induction S with
    | nil => intro x; rfl
    | cons d r ih => intro x; rw [List.foldl_cons, ih]; unfold costSt; simp
  exact this S _
theorem map_const {α β : Type} (l : List α) (b : β) : (l.map fun _ => b) = List.replicate l.length b := by
  induction l with
  | nil => rfl
  | cons a r ih => simp [List.replicate_succ, ih]
theorem aft_last (h S : List Bool) (d : Bool) : aft h (S ++ [d]) = List.replicate h.length (!d) := by
  rw [aft_snoc, map_const, aft_len]
theorem cnt_low (h : List Bool) : ((h.count false : Nat) : Int) = (h.length : Int) - cnt h := by
  unfold cnt
  induction h with
  | nil => rfl
  | cons a r ih => simp only [List.count_cons, List.length_cons]; cases a <;> simp <;> omega
theorem cnt_drop : ∀ {h : List Bool} {i : Nat} {a : Bool}, h[i]? = some a → cnt (h.drop i) = (if a then 1 else 0) + cnt (h.drop (i + 1))
  | [], i, a, e => by simp at e
  | x :: h, 0, a, e => by
    simp at e; subst e
    unfold cnt
    simp only [List.drop_zero, List.drop_succ_cons, List.count_cons]
    cases x <;> simp <;> omega
  | x :: h, i + 1, a, e => by
    have := cnt_drop (h := h) (i := i) (a := a) (by simpa using e)
    simpa using this
theorem cnt_set_drop : ∀ {h : List Bool} {i : Nat} {a : Bool} (b : Bool) (k : Nat), h[i]? = some a → cnt ((h.set i b).drop k) = cnt (h.drop k) + (if k ≤ i then (if b then 1 else 0) - (if a then 1 else 0) else 0)
  | [], i, a, b, k, e => by simp at e
  | x :: h, i, a, b, 0, e => by
    have := cnt_set (h := x :: h) (i := i) (a := a) b e
    simp only [List.drop_zero, Nat.zero_le, if_true]
    omega
  | x :: h, 0, a, b, k + 1, e => by
    simp
  | x :: h, i + 1, a, b, k + 1, e => by
    have := cnt_set_drop (h := h) (i := i) (a := a) b k (by simpa using e)
    simpa using this
theorem cnt_nil_drop {h : List Bool} {k : Nat} (hk : h.length ≤ k) : cnt (h.drop k) = 0 := by
  rw [List.drop_eq_nil_of_le hk]; rfl
theorem let_drop {h : List Bool} {g : Int} (d : letOut h g = .done) (k : Nat) (hk : k ≤ h.length) : cnt ((letH h g).drop k) ≤ cnt (h.drop k) + (if g = h.length then 1 else 0) := by
  obtain ⟨h0, h1, h2, h3⟩ := let_done d
  unfold letH takeH giveH
  unfold canGive at h2
  unfold canTake at h3
  by_cases a : g < h.length
  · have ca : isCh h.length (g + 1) = true := isCh_true (by omega) (by omega)
    rw [ca, if_pos rfl] at h2
    simp only [ca, if_true, List.length_set]
    rw [if_neg (show ¬ g = (h.length : Int) by omega)]
    have hg : h[(g + 1 - 1).toNat]? = some true := getD_some (by omega) h2
    have c1 := cnt_set_drop false k hg
    by_cases z : 0 < g
    · have cz : isCh h.length g = true := isCh_true z (by omega)
      rw [cz, if_pos rfl] at h3
      rw [if_pos cz]
      have hg1 : h[(g - 1).toNat]? = some false := getD_some (by omega) (by simpa using h3)
      have hg2 : (h.set (g + 1 - 1).toNat false)[(g - 1).toNat]? = some false := by rw [List.getElem?_set_ne (by omega)]; exact hg1
      rw [cnt_set_drop true k hg2, c1]
      simp
      split <;> split <;> omega
    · rw [isCh_lo (by omega : g ≤ 0)]
      simp only [Bool.false_eq_true, if_false]
      rw [c1]; simp
      split <;> omega
  · have e : g = h.length := by omega
    rw [if_pos e, isCh_hi (show (h.length : Int) + 1 ≤ g + 1 by omega)]
    simp only [Bool.false_eq_true, if_false]
    by_cases z : 0 < g
    · have cz : isCh h.length g = true := isCh_true z (by omega)
      rw [cz, if_pos rfl] at h3
      rw [cz, if_pos rfl]
      have hg1 : h[(g - 1).toNat]? = some false := getD_some (by omega) (by simpa using h3)
      rw [cnt_set_drop true k hg1]
      simp
      split <;> omega
    · rw [isCh_lo (by omega : g ≤ 0)]
      simp; omega
def base (h0 S : List Bool) (k : Nat) : Int := match S.getLast? with
  | none => - cnt (h0.drop k)
  | some false => costOf h0 S - ((h0.length : Int) - k)
  | some true => costOf h0 S
def Chn : Option Bool → List Bool → List Bool → Prop
  | none, x, y => x = y
  | some false, x, y => x = y ++ [false]
  | some true, x, y => y = x ++ [true]
structure Wat (h0 h : List Bool) (n : Nat) (c : Nat → Option Bool) (S : Nat → List Bool) (G : List Bool) (dr : Int) : Prop where
  l0 : h0.length = n
  l1 : h.length = n
  ch : ∀ j, j < n → Chn (c j) (S j) (S (j + 1))
  dr : ∀ k, k ≤ n → base h0 (S k) k + cnt (h.drop k) ≤ dr
  ks : ∃ k, k ≤ n ∧ (∀ j, j < k → c j ≠ some true) ∧ (∀ j, k ≤ j → j < n → c j ≠ some false) ∧ S k = G
theorem base_up (h0 S : List Bool) (k : Nat) : base h0 (S ++ [false]) k = costOf h0 (S ++ [false]) - ((h0.length : Int) - k) := by
  unfold base; simp
theorem base_dn (h0 S : List Bool) (k : Nat) : base h0 (S ++ [true]) k = costOf h0 (S ++ [true]) := by
  unfold base; simp
theorem last_cases (S : List Bool) : S = [] ∨ ∃ T d, S = T ++ [d] := by
  rcases List.eq_nil_or_concat S with h | ⟨T, d, h⟩
  · exact .inl h
  · exact .inr ⟨T, d, by simpa using h⟩
theorem cost1_up_high (n : Nat) : cost1 (List.replicate n true) false = 1 := by
  unfold cost1; simp [List.count_replicate]
theorem cost1_up_low (n : Nat) (h : 1 ≤ n) : cost1 (List.replicate n false) false = n := by
  unfold cost1; simp [List.count_replicate]; omega
theorem cost1_dn_high (n : Nat) : cost1 (List.replicate n true) true = 0 := by
  unfold cost1
  cases n with
  | zero => rfl
  | succ n => simp [List.getLastD_eq_getLast?, List.getLast?_replicate]
theorem cost1_dn_low (n : Nat) (h : 1 ≤ n) : cost1 (List.replicate n false) true = 1 := by
  unfold cost1
  simp [List.getLastD_eq_getLast?, List.getLast?_replicate, show n ≠ 0 by omega]
theorem Wat.up {h0 h : List Bool} {n : Nat} {c c' : Nat → Option Bool} {S : Nat → List Bool} {G : List Bool} {dr : Int} (W : Wat h0 h n c S G dr) (n1 : 1 ≤ n) {g : Nat} (hg : g ≤ n)
    (a : ∀ k, g = k + 1 → c k = some false ∧ h[k]? = some true) (b : g < n → c g = none ∧ h[g]? = some false) (hc : ∀ j, j < n → c' j = if j + 1 = g then none else if j = g then some false else c j) :
    Wat h0 h n c' (fun k => if k = g then S g ++ [false] else S k) (if g = n then G ++ [false] else G) dr := by
  obtain ⟨l0, l1, ch, hd, k, hk, k1, k2, k3⟩ := W
  refine ⟨l0, l1, fun j hj => ?_, fun k hk => ?_, ?_⟩
  · rw [hc j hj]
    have cj := ch j hj
    by_cases e1 : j + 1 = g
    · rw [(a j e1.symm).1] at cj
      have cj : S j = S (j + 1) ++ [false] := cj
      rw [if_pos e1]
      show (if j = g then _ else _) = if j + 1 = g then _ else _
      rw [if_neg (by omega), if_pos e1, cj, e1]
    · rw [if_neg e1]
      by_cases e2 : j = g
      · subst e2
        rw [(b hj).1] at cj
        have cj : S j = S (j + 1) := cj
        rw [if_pos rfl]
        show (if j = j then _ else _) = (if j + 1 = j then _ else _) ++ [false]
        rw [if_pos rfl, if_neg (by omega), cj]
      · rw [if_neg e2]
        show Chn (c j) (if j = g then _ else _) (if j + 1 = g then _ else _)
        rw [if_neg e2, if_neg e1]
        exact cj
  · show base h0 (if k = g then _ else _) k + _ ≤ dr
    by_cases e : k = g
    · subst e
      rw [if_pos rfl, base_up]
      cases k with
      | succ i =>
        have q := a i rfl
        have ci := ch i (by omega)
        rw [q.1] at ci
        have ci : S i = S (i + 1) ++ [false] := ci
        have d := hd i (by omega)
        rw [ci, base_up, cnt_drop q.2] at d
        simp at d ⊢
        omega
      | zero =>
        have q := b (by omega)
        have ci := ch 0 (by omega)
        rw [q.1] at ci
        have ci : S 0 = S 1 := ci
        have d0 := hd 0 (by omega)
        have d1 := hd 1 n1
        rw [← ci] at d1
        have cd := cnt_drop q.2
        rw [costOf_snoc]
        rcases last_cases (S 0) with e0 | ⟨T, d, e0⟩
        · rw [e0] at d1 ⊢
          have d1 : - cnt (h0.drop 1) + cnt (h.drop 1) ≤ dr := d1
          have : cost1 (aft h0 []) false = 1 + ((h0.drop 1).count false : Nat) := rfl
          rw [this, cnt_low, List.length_drop, costOf_nil]
          simp at cd d1 ⊢
          omega
        · rw [e0] at d0 d1
          rw [e0, aft_last]
          cases d
          · rw [base_up] at d1
            rw [show (!false) = true from rfl, cost1_up_high]
            simp at cd d1 ⊢
            omega
          · rw [base_dn] at d0
            rw [show (!true) = false from rfl, cost1_up_low _ (by omega)]
            simp at cd d0 ⊢
            omega
    · rw [if_neg e]; exact hd k hk
  · by_cases e : g = n
    · subst e
      rw [if_pos rfl]
      obtain ⟨i, rfl⟩ : ∃ i, g = i + 1 := ⟨g - 1, by omega⟩
      have kk : k = i + 1 := Classical.byContradiction fun z => k2 i (by omega) (by omega) (a i rfl).1
      subst kk
      refine ⟨i + 1, hk, fun j hj => ?_, fun j h1 h2 => by omega, ?_⟩
      · rw [hc j hj]; split
        · intro z; cases z
        · split
          · intro z; cases z
          · exact k1 j hj
      · show (if i + 1 = i + 1 then _ else _) = _
        rw [if_pos rfl, k3]
    · rw [if_neg e]
      have bb := b (by omega)
      by_cases kg : k = g
      · subst kg
        have ci := ch k (by omega)
        rw [bb.1] at ci
        have ci : S k = S (k + 1) := ci
        refine ⟨k + 1, by omega, fun j hj => ?_, fun j h1 h2 => ?_, ?_⟩
        · rw [hc j (by omega)]; split
          · intro z; cases z
          · split
            · intro z; cases z
            · exact k1 j (by omega)
        · rw [hc j h2, if_neg (by omega), if_neg (by omega)]; exact k2 j (by omega) h2
        · show (if k + 1 = k then _ else _) = _
          rw [if_neg (by omega), ← ci, k3]
      · have kg2 : g < k := by
          refine Classical.byContradiction fun z => ?_
          obtain ⟨i, rfl⟩ : ∃ i, g = i + 1 := ⟨g - 1, by omega⟩
          exact k2 i (by omega) (by omega) (a i rfl).1
        refine ⟨k, hk, fun j hj => ?_, fun j h1 h2 => ?_, ?_⟩
        · rw [hc j (by omega)]; split
          · intro z; cases z
          · split
            · intro z; cases z
            · exact k1 j (by omega)
        · rw [hc j h2, if_neg (by omega), if_neg (by omega)]; exact k2 j h1 h2
        · show (if k = g then _ else _) = _
          rw [if_neg kg, k3]
theorem last_drop {h : List Bool} {i : Nat} (e : h.length = i + 1) {a : Bool} (ha : h[i]? = some a) : h.getLastD true = a := by
  rw [List.getLastD_eq_getLast?, List.getLast?_eq_getElem?, e]
  simp [ha]
theorem Wat.down {h0 h : List Bool} {n : Nat} {c c' : Nat → Option Bool} {S : Nat → List Bool} {G : List Bool} {dr : Int} (W : Wat h0 h n c S G dr) (n1 : 1 ≤ n) {g : Nat} (hg : g ≤ n)
    (a : ∀ k, g = k + 1 → c k = none ∧ h[k]? = some true) (b : g < n → c g = some true ∧ h[g]? = some false) (hc : ∀ j, j < n → c' j = if j = g then none else if j + 1 = g then some true else c j) :
    Wat h0 h n c' (fun k => if k = g then S g ++ [true] else S k) (if g = 0 then G ++ [true] else G) dr := by
  obtain ⟨l0, l1, ch, hd, k, hk, k1, k2, k3⟩ := W
  refine ⟨l0, l1, fun j hj => ?_, fun k hk => ?_, ?_⟩
  · rw [hc j hj]
    have cj := ch j hj
    by_cases e1 : j = g
    · subst e1
      rw [(b hj).1] at cj
      have cj : S (j + 1) = S j ++ [true] := cj
      rw [if_pos rfl]
      show (if j = j then _ else _) = if j + 1 = j then _ else _
      rw [if_pos rfl, if_neg (by omega), cj]
    · rw [if_neg e1]
      by_cases e2 : j + 1 = g
      · rw [(a j e2.symm).1] at cj
        have cj : S j = S (j + 1) := cj
        rw [if_pos e2]
        show (if j + 1 = g then _ else _) = (if j = g then _ else _) ++ [true]
        rw [if_pos e2, if_neg e1, cj, e2]
      · rw [if_neg e2]
        show Chn (c j) (if j = g then _ else _) (if j + 1 = g then _ else _)
        rw [if_neg e1, if_neg e2]
        exact cj
  · show base h0 (if k = g then _ else _) k + _ ≤ dr
    by_cases e : k = g
    · subst e
      rw [if_pos rfl, base_dn]
      by_cases kn : k < n
      · have q := b kn
        have ci := ch k kn
        rw [q.1] at ci
        have ci : S (k + 1) = S k ++ [true] := ci
        have d := hd (k + 1) (by omega)
        rw [ci, base_dn] at d
        rw [cnt_drop q.2]
        simp at d ⊢
        omega
      · have kn : k = n := by omega
        subst kn
        obtain ⟨i, rfl⟩ : ∃ i, k = i + 1 := ⟨k - 1, by omega⟩
        have q := a i rfl
        have ci := ch i (by omega)
        rw [q.1] at ci
        have ci : S i = S (i + 1) := ci
        have d0 := hd i (by omega)
        have d1 := hd (i + 1) (by omega)
        rw [ci] at d0
        have cd := cnt_drop q.2
        have z1 := cnt_nil_drop (h := h) (k := i + 1) (by omega)
        have z0 := cnt_nil_drop (h := h0) (k := i + 1) (by omega)
        rw [costOf_snoc, z1]
        rcases last_cases (S (i + 1)) with e0 | ⟨T, d, e0⟩
        · rw [e0] at d0 ⊢
          have d0 : - cnt (h0.drop i) + cnt (h.drop i) ≤ dr := d0
          have hi : i < h0.length := by omega
          have hx := List.getElem?_eq_getElem hi
          have cd0 := cnt_drop hx
          have la := last_drop l0 hx
          have : cost1 (aft h0 []) true = if h0.getLastD true then 0 else 1 := rfl
          rw [this, la, costOf_nil]
          generalize h0[i] = x at *
          cases x
          · simp only [if_true, Bool.false_eq_true, if_false] at cd cd0 ⊢; omega
          · simp only [if_true] at cd cd0 ⊢; omega
        · rw [e0] at d0 d1
          rw [e0, aft_last]
          cases d
          · rw [base_up] at d1
            rw [show (!false) = true from rfl, cost1_dn_high]
            simp at cd d1 ⊢
            omega
          · rw [base_dn] at d0
            rw [show (!true) = false from rfl, cost1_dn_low _ (by omega)]
            simp at cd d0 ⊢
            omega
    · rw [if_neg e]; exact hd k hk
  · by_cases e : g = 0
    · subst e
      rw [if_pos rfl]
      have kk : k = 0 := Classical.byContradiction fun z => k1 0 (by omega) (b (by omega)).1
      subst kk
      refine ⟨0, hk, fun j hj => by omega, fun j h1 h2 => ?_, ?_⟩
      · rw [hc j h2]; split
        · intro z; cases z
        · rw [if_neg (by omega)]; exact k2 j h1 h2
      · show (if 0 = 0 then _ else _) = _
        rw [if_pos rfl, k3]
    · rw [if_neg e]
      obtain ⟨i, rfl⟩ : ∃ i, g = i + 1 := ⟨g - 1, by omega⟩
      have aa := a i rfl
      by_cases kg : k = i + 1
      · subst kg
        have ci := ch i (by omega)
        rw [aa.1] at ci
        have ci : S i = S (i + 1) := ci
        refine ⟨i, by omega, fun j hj => ?_, fun j h1 h2 => ?_, ?_⟩
        · rw [hc j (by omega), if_neg (by omega), if_neg (by omega)]; exact k1 j (by omega)
        · rw [hc j h2]; split
          · intro z; cases z
          · split
            · intro z; cases z
            · exact k2 j (by omega) h2
        · show (if i = i + 1 then _ else _) = _
          rw [if_neg (by omega), ci, k3]
      · have kg2 : k < i + 1 := by
          refine Classical.byContradiction fun z => ?_
          exact k1 (i + 1) (by omega) (b (by omega)).1
        refine ⟨k, hk, fun j hj => ?_, fun j h1 h2 => ?_, ?_⟩
        · rw [hc j (by omega), if_neg (by omega), if_neg (by omega)]; exact k1 j hj
        · rw [hc j h2]; split
          · intro z; cases z
          · split
            · intro z; cases z
            · exact k2 j h1 h2
        · show (if k = i + 1 then _ else _) = _
          rw [if_neg kg, k3]
end Lf

namespace Lf
def Fl.con (f : Fl) (j : Nat) : Option Bool := (f.inside[j]?).join.map f.side
def WatF (h0 : List Bool) (f : Fl) : Prop := ∃ S, Wat h0 f.high f.high.length f.con S (f.gone.map f.side) f.drawn
theorem WatF.new (h : List Bool) : WatF h (Fl.new h) := by
  have e : ∀ j, (Fl.new h).con j = none := fun j => by
    unfold Fl.con Fl.new
    by_cases z : j < h.length
    · simp [z]
    · simp [z]
  refine ⟨fun _ => [], rfl, rfl, fun j hj => ?_, fun k hk => ?_, 0, Nat.zero_le _, fun j hj => by omega, fun j _ _ => by rw [e]; simp, rfl⟩
  · rw [e]; rfl
  · show - cnt (h.drop k) + cnt (h.drop k) ≤ 0
    omega
theorem WatF.let {h0 : List Bool} {f : Fl} (W : WatF h0 f) {g : Int} (d : letOut f.high g = .done) : WatF h0 (f.let g) := by
  obtain ⟨S, l0, l1, ch, hd, ks⟩ := W
  have el : (f.let g).high.length = f.high.length := letH_len _ _
  obtain ⟨g0, g1, _⟩ := let_done d
  refine ⟨S, ?_⟩
  rw [el]
  refine ⟨l0, el, ch, fun k hk => ?_, ks⟩
  have a := hd k hk
  have b := let_drop d k hk
  show base h0 (S k) k + cnt ((letH f.high g).drop k) ≤ f.drawn + _
  by_cases z : g = f.high.length
  · rw [if_pos z] at b
    rw [isCh_hi (by omega)]
    simp only [Bool.false_eq_true, if_false]
    omega
  · rw [if_neg z] at b
    rw [isCh_true (by omega) (by omega)]
    simp only [if_true]
    omega
theorem WatF.come {h0 : List Bool} {f : Fl} (W : WatF h0 f) (o : Ord f) (s : Bool) : WatF h0 (f.come s) := by
  have a1 : ∀ b : Int, 0 ≤ b ∧ b < (f.sides.length : Int) → (f.come s).side b = f.side b := fun b h => side_app h.1 h.2
  have c1 : (f.come s).con = f.con := by
    funext j
    unfold Fl.con
    show (f.inside[j]?).join.map (f.come s).side = _
    cases e : f.inside[j]? with
    | none => rfl
    | some x =>
      cases x with
      | none => rfl
      | some b =>
        have := o.ins (List.mem_of_getElem? e)
        simp [a1 b this]
  have g1 : (f.come s).gone.map (f.come s).side = f.gone.map f.side := List.map_congr_left fun b hb => a1 b (o.gone hb)
  unfold WatF
  rw [c1, g1]
  exact W
end Lf

set_option Elab.async false
set_option linter.all false
set_option maxRecDepth 100000
/-! My own additions to the hand layer, part G: a def's body in short. -/
namespace LX
open PySem PySem.Spec PyProof.Rows L2
section
variable {P : Program} {w : World} {K : PySem.W.Frag} {mg : Str → Option Value} {base : Heap} {N : List Str} {qual : Str} {scope : Scope} {f : Addr} {cd : Value} {A : Around} {outer : List Env} {s : Shared} {H : Hp} {E : XK}
theorem own_body : Own (bodyCx P w K mg base N qual scope f cd A outer s H E) := ⟨rfl, rfl, rfl⟩
theorem passB : PassesX (CXe P w) (bodyCx P w K mg base N qual scope f cd A outer s H E) (fun _ => E) := passX own_cx
theorem raiseB : RaisesX (bodyCx P w K mg base N qual scope f cd A outer s H E) (fun _ => E) := raiseX own_cx
theorem ownB : PassesOwn (model P w) (bodyCx P w K mg base N qual scope f cd A outer s H E).A (bodyCx P w K mg base N qual scope f cd A outer s H E).env (bodyCx P w K mg base N qual scope f cd A outer s H E).xe := ownX own_cx
end
theorem passF {P : Program} {w : World} {X : Cx} : PassesX (CXe P w) X (fun _ _ _ _ => False) := fun _ _ _ _ _ _ _ h => by
  obtain ⟨_, _, _, _, _, _, _, _, _, _, _, _, _, _, he⟩ := h
  exact he.elim
end LX
namespace LX
open PySem PySem.Spec PyProof.Rows L2
theorem cx_body {P : Program} {w : World} {K : PySem.W.Frag} {mg : Str → Option Value} {base : Heap} {N : List Str} {qual : Str} {scope : Scope} {f : Addr} {cd : Value} {A : Around} {outer : List Env} {s : Shared} {H : Hp} {E : XK} : (bodyCx P w K mg base N qual scope f cd A outer s H E).K = K := rfl
theorem cx_blk {X : Cx} {scope : Scope} {cl : List (Str × Addr)} {C : Addr} {N : List Str} {s : Shared} {H : Hp} {fp : List Addr} : (blkCx X scope cl C N s H fp).K = X.K := rfl
theorem cx_try {X : Cx} {pins : List (Addr × Obj)} {E : L2.St → XK} : (tryCx X pins E).K = X.K := rfl
theorem cx_mark {X : Cx} {ea : Addr} {oe : Obj} {xe : Value → Shared → Prop} : (markCx X ea oe xe).K = X.K := rfl
end LX
namespace LX
open PySem PySem.Spec PyProof.Rows L2
/-! ### the same, with the fragment by its name -/
section
variable {X : Cx} {K : PySem.W.Frag} {e o a i value l : Expr} {ta tv ti te : TE} {tg : Expr} {f : Str} {pos pos' tpos p2 : Pos}
theorem pi_listK (hK : X.K = K) (hl : PE X l ta) : PI X tg l (iList K ta) := by subst hK; exact pi_list hl
theorem ix_listK (hK : X.K = K) : IxR X (rIxL K) := by subst hK; exact ix_list
theorem len_seqK (hK : X.K = K) : CallR X (.builtin "len") (fun xs H Q => ∃ p ys, xs = [.ref p] ∧ (SqL K H p ys ∨ SqT K H p ys) ∧ Q (.int ys.length) H) := by subst hK; exact call_len_seq
end
end LX
namespace LX
open PySem PySem.Spec PyProof.Rows L2
def rPowU : R2 := fun x y H Q => match x, y with | .int i, .int j => CPow i j ∧ 0 < i ∧ ∀ z : Int, 0 < z → Q (.int z) H | _, _ => False
end LX
namespace LX
open PySem PySem.Spec PyProof.Rows L2
/-! ### answers apart from what follows them: the rest of the reading stands once -/
inductive Res where
  | pure (c : Prop) (v : V)
  | new (c : Prop) (o : HO)
def give : Option Res → Hp → VK → Prop
  | some (.pure c v), H, Q => c ∧ Q v H
  | some (.new c o), H, Q => c ∧ ∀ l, H l = none → Q (.ref l) (upd H l o)
  | none, _, _ => False
section
variable {H : Hp} {Q : VK}
theorem give_p (c : Prop) (v : V) : give (some (.pure c v)) H Q = (c ∧ Q v H) := rfl
theorem give_n (c : Prop) (o : HO) : give (some (.new c o)) H Q = (c ∧ ∀ l, H l = none → Q (.ref l) (upd H l o)) := rfl
theorem give_0 : give none H Q = False := rfl
def addO (x y : V) (H : Hp) : Option Res := match x, y with
  | .int i, .int j => some (.pure True (.int (i + j)))
  | .str i, .str j => some (.pure (i.length + j.length ≤ sizeLine) (.str (i ++ j)))
  | .ref p, .ref q => (match H p, H q with | some (.lst xs), some (.lst zs) => some (.new (xs.length + zs.length ≤ sizeLine) (.lst (xs ++ zs))) | _, _ => none)
  | _, _ => none
theorem add_eq (x y : V) : rAddU x y H Q = give (addO x y H) H Q := by
  cases x <;> cases y <;> first
    | rfl
    | exact (true_and _).symm
    | (rename_i p q
       unfold rAddU addO
       dsimp only
       cases H p with
       | none => rfl
       | some o => cases o <;> first
         | rfl
         | (cases H q with
            | none => rfl
            | some o' => cases o' <;> rfl))
def mulO (x y : V) (H : Hp) : Option Res := match x, y with
  | .int i, .int j => some (.pure (CMul i j) (.int (i * j)))
  | .ref p, .int k => (match H p with | some (.lst xs) => some (.new (-(2 ^ 63) ≤ k ∧ k < 2 ^ 63 ∧ xs.length * k.toNat ≤ sizeLine) (.lst (List.replicate k.toNat xs).flatten)) | _ => none)
  | _, _ => none
theorem mul_eq (x y : V) : rMulU x y H Q = give (mulO x y H) H Q := by
  cases x <;> cases y <;> first
    | rfl
    | (rename_i p q
       unfold rMulU mulO
       dsimp only
       cases H p with
       | none => rfl
       | some o => cases o <;> first
         | rfl
         | (simp only [give_n, and_assoc]))
def lenO (xs : List V) (H : Hp) : Option Res := match xs with
  | [.ref p] => (match H p with | some (.lst ys) => some (.pure True (.int ys.length)) | some (.tup ys) => some (.pure True (.int ys.length)) | some (.dK ks) => some (.pure True (.int ks.length)) | _ => none)
  | [.str z] => some (.pure (z.length ≤ sizeLine) (.int z.length))
  | _ => none
theorem len_eq (xs : List V) : lenU xs H Q = give (lenO xs H) H Q := by
  unfold lenU lenO
  rcases xs with _ | ⟨x, _ | ⟨y, r⟩⟩
  · rfl
  · cases x <;> first
      | rfl
      | (rename_i p
         dsimp only
         cases H p with
         | none => rfl
         | some o => cases o <;> first | rfl | exact (true_and _).symm)
  · cases x <;> rfl
def listO (xs : List V) (H : Hp) : Option Res := match xs with
  | [.ref p] => (match H p with | some (.lst ys) => some (.new True (.lst ys)) | some (.tup ys) => some (.new True (.lst ys)) | _ => none)
  | _ => none
theorem list_eq (xs : List V) : listU xs H Q = give (listO xs H) H Q := by
  unfold listU listO
  rcases xs with _ | ⟨x, _ | ⟨y, r⟩⟩
  · rfl
  · cases x <;> first
      | rfl
      | (rename_i p
         dsimp only
         cases H p with
         | none => rfl
         | some o => cases o <;> first | rfl | exact (true_and _).symm)
  · cases x <;> rfl
def intO (xs : List V) : Option Res := match xs with
  | [.int i] => some (.pure True (.int i))
  | [.bl k] => some (.pure True (.int (if k then 1 else 0)))
  | _ => none
theorem int_eq (xs : List V) : intU xs H Q = give (intO xs) H Q := by
  unfold intU intO
  rcases xs with _ | ⟨x, _ | ⟨y, r⟩⟩
  · rfl
  · cases x <;> first | rfl | exact (true_and _).symm
  · cases x <;> rfl
def oneR : Option V → Option Res
  | some v => some (.pure True v)
  | none => none
def ixO (x y : V) (H : Hp) : Option Res := match x, y with
  | .ref p, .int i => (match H p with | some (.lst xs) => oneR (atI xs i) | some (.tup xs) => oneR (atI xs i) | _ => none)
  | _, _ => none
theorem ix_eq (x y : V) : ixU x y H Q = give (ixO x y H) H Q := by
  cases x <;> cases y <;> first
    | rfl
    | (rename_i p i
       unfold ixU ixO
       dsimp only
       cases H p with
       | none => rfl
       | some o => cases o <;> first
         | rfl
         | (rename_i xs
            dsimp only
            cases atI xs i with
            | none => rfl
            | some v => exact (true_and _).symm))
def gEq (b : Bool) (x y : V) (H : Hp) (Q : VK) : Prop := if b = true then Q (.bl (decide (x = y))) H else rEqD x y H Q
def gNe (b : Bool) (x y : V) (H : Hp) (Q : VK) : Prop := if b = true then Q (.bl (!decide (x = y))) H else rNeD x y H Q
theorem eq_eq (x y : V) : rEqU x y H Q = gEq (scal x y) x y H Q := rfl
theorem ne_eq' (x y : V) : rNeU x y H Q = gNe (scal x y) x y H Q := rfl
theorem gEq_t (x y : V) : gEq true x y H Q = Q (.bl (decide (x = y))) H := by unfold gEq; rw [if_pos rfl]
theorem gEq_f (x y : V) : gEq false x y H Q = rEqD x y H Q := by unfold gEq; rw [if_neg Bool.false_ne_true]
theorem gNe_t (x y : V) : gNe true x y H Q = Q (.bl (!decide (x = y))) H := by unfold gNe; rw [if_pos rfl]
theorem gNe_f (x y : V) : gNe false x y H Q = rNeD x y H Q := by unfold gNe; rw [if_neg Bool.false_ne_true]
end
end LX
namespace LX
open PySem PySem.Spec PyProof.Rows L2
def negI (i : Int) : Int := -i
theorem neg_i {H : Hp} {Q : VK} (i : Int) : rNegU (.int i) H Q = Q (.int (negI i)) H := rfl
end LX

set_option Elab.async false
set_option linter.all false
set_option maxRecDepth 100000
/-! My own additions to the hand layer, part H: methods of lists, sorted, a dict's keys. -/
namespace LX
open PySem PySem.Spec PyProof.Rows L2
section
variable {X : Cx}
theorem MtR.imp {id : String} {r r' : V → List V → Hp → VK → Prop} (h : MtM X id r) (i : ∀ x xs H Q, r' x xs H Q → r x xs H Q) : MtM X id r' := fun pins s σ H x xs v us Q I rx rv q => h pins s σ H x xs v us Q I rx rv (i x xs H Q q)
def appU : V → List V → Hp → VK → Prop := fun x vs H Q => match x, vs with
  | .ref l, [y] => (match H l with | some (.lst xs) => xs.length < sizeLine ∧ Q .non (upd H l (.lst (xs ++ [y]))) | _ => False)
  | _, _ => False
theorem mu_append : MtM X "list.append" appU := MtR.imp mt_append fun x vs H Q h => by
  unfold appU at h
  split at h
  · split at h
    · exact ⟨_, _, _, rfl, rfl, ‹_›, h.1, h.2⟩
    · exact h.elim
  · exact h.elim
def pop0U : V → List V → Hp → VK → Prop := fun x vs H Q => match x, vs with
  | .ref l, [.int 0] => (match H l with | some (.lst (y :: r)) => Q y (upd H l (.lst r)) | _ => False)
  | _, _ => False
def findV (y : V) : List V → Option Nat
  | [] => none
  | z :: r => if eqV z y = true then some 0 else (findV y r).map (· + 1)
def idxO (x : V) (vs : List V) (H : Hp) : Option Res := match x, vs with
  | .ref l, [y] => (match H l with | some (.lst xs) => (match findV y xs with | some k => some (.pure (flatV y = true ∧ xs.all flatV = true) (.int k)) | none => none) | _ => none)
  | _, _ => none
def idxU : V → List V → Hp → VK → Prop := fun x vs H Q => give (idxO x vs H) H Q
def cntU : V → List V → Hp → VK → Prop := fun x vs H Q => match x, vs with
  | .ref l, [y] => (match H l with | some (.lst xs) => (flatV y = true ∧ xs.all flatV = true) ∧ Q (.int (xs.countP fun z => eqV z y : Nat)) H | _ => False)
  | _, _ => False
def inO (neg : Bool) (x y : V) (H : Hp) : Option Res := match y with
  | .ref p => (match H p with
    | some (.lst xs) => some (.pure (flatV x = true ∧ xs.all flatV = true) (.bl (if neg then !inV x xs else inV x xs)))
    | some (.tup xs) => some (.pure (flatV x = true ∧ xs.all flatV = true) (.bl (if neg then !inV x xs else inV x xs)))
    | _ => none)
  | _ => none
def inU (neg : Bool) : R2 := fun x y H Q => give (inO neg x y H) H Q
def listDU : List V → Hp → VK → Prop := fun xs H Q => match xs with
  | [.ref p] => (match H p with | some (.dK kvs) => ∀ l, H l = none → Q (.ref l) (upd H l (.lst (kvs.map fun q => kV q.1))) | _ => False)
  | _ => False
def sortU : List V → Hp → VK → Prop := fun xs H Q => match xs with
  | [.ref p] => (match H p with | some (.lst ys) => ∃ ns : List Int, ys = ns.map V.int ∧ ns.length < 64 ∧ ∀ l ns', H l = none → List.Perm ns' ns → ns'.Pairwise (· ≤ ·) → Q (.ref l) (upd H l (.lst (ns'.map V.int))) | _ => False)
  | _ => False
end
end LX
namespace LX
open PySem PySem.Spec PyProof.Rows L2
section
variable {X : Cx} {o e a b c i : Expr} {es : List Expr} {to ta tb tc td ty : TE} {t : TA} {name : Str} {pos apos cpos : Pos} {T id : String} {r : V → List V → Hp → VK → Prop}
/-! ### methods of lists -/
def isLst (x : V) (H : Hp) : Prop := match x with | .ref p => (match H p with | some (.lst _) => True | _ => False) | _ => False
theorem isLst_to {K : PySem.W.Frag} {x : V} {H : Hp} (h : isLst x H) : tyV K "list" x H := by
  unfold isLst at h
  split at h
  · split at h
    · exact .inl ⟨rfl, _, .inl (.inl ‹_›)⟩
    · exact h.elim
  · exact h.elim
def tLM (r : V → List V → Hp → VK → Prop) (to : TE) (t : TA) : TE := fun σ H Q => to σ H fun x H1 => isLst x H1 ∧ t σ H1 fun xs H2 => r x xs H2 Q
theorem eu_lm (slot : Slot "list" name id) (hty : typeOf (.builtin id) = pure (.type "method_descriptor")) (hm : MtM X id r) (ho : PE X o to) (ha : PA X (e :: es) t)
    (hbase : attributeBase o name X.env (eval o X.env) = eval o X.env := by rfl)
    (hfew : ((backTo cpos (starEach (e :: es) X.env)).all (fun x => !x.1) && (backToKw cpos (keywordEach [] X.env)).all (fun x => x.1.isSome)
      && decide ((e :: es).length + ([] : List Keyword).length + (if ([] : List Keyword).isEmpty then 0 else 1) < 30)) = true := by rfl)
    (hline : (apos.endLine == cpos.line) = true := by rfl) (hs : starEach (e :: es) X.env = (false, eval e X.env) :: starEach es X.env := by rfl) (hplain : (backTo cpos (starEach es X.env)).any (·.1) = false := by rfl) :
    PE X (.Call (.Attribute o name apos) (e :: es) [] cpos) (tLM r to t) := by
  intro pins s σ H Q I h
  refine wpAny_Call_method_late hbase hfew hline rfl (thn (ho pins s σ H _ I h) fun v s1 ⟨x, H1, I1, r1, ty, q1⟩ => ?_)
  obtain ⟨h1, h2⟩ := tyV_is I1 r1 (isLst_to ty)
  refine ⟨"list", id, PySem.F.plainAttrs_list, slot, hty, h1, h2, ?_⟩
  have hA := ha cpos pins s1 σ H1 _ I1 q1
  rw [hs] at hA ⊢
  refine Calls.callWith_builtin (by show (false || (backTo cpos (starEach es X.env)).any (·.1)) = false; rw [hplain] <;> rfl) (Calls.evalArgs_plain ?_)
  exact thn hA fun us s2 ⟨vs, H2, I2, r2, q2⟩ => hm pins s2 σ H2 x vs v us Q I2 r1 r2 q2
/-! ### in, of a dict; pop of a dict -/
def diU (neg : Bool) (y x : V) (H : Hp) (Q : VK) : Prop := match x with
  | .ref a => (match H a with | some (.dK kvs) => (match keyOf y with | some k => Q (.bl (if neg then !(valV kvs k).isSome else (valV kvs k).isSome)) H | none => False) | _ => False)
  | _ => False
def tDiU (neg : Bool) (ty td : TE) : TE := fun σ H Q => ty σ H fun y H1 => td σ H1 fun x H2 => diU neg y x H2 Q
def isDK (x : V) (H : Hp) : Prop := match x with | .ref p => (match H p with | some (.dK _) => True | _ => False) | _ => False
def dpopU (x y : V) (H : Hp) (Q : VK) : Prop := match x with
  | .ref a => (match H a with | some (.dK kvs) => (match keyOf y with | some k => (match valV kvs k with | some v => Q v (upd H a (.dK (dropK kvs k))) | none => False) | none => False) | _ => False)
  | _ => False
def tDPopU (td ty : TE) : TE := fun σ H Q => td σ H fun x H1 => isDK x H1 ∧ ty σ H1 fun y H2 => dpopU x y H2 Q
/-! ### tests -/
theorem tu_pc {op : CmpOp} {t : TE} (h : PC X op a b t) (h1 : behindInMarks op b = false := by first | exact nobehind _ (by decide) (by decide) | rfl) : PT X (.Compare a [op] [b] pos) (tTestU t) := by
  intro pins s σ H Q I hw
  refine wpAny_isTrue_Compare1 (thn (h pins s σ H _ I hw) fun v s1 h1 => thn h1 fun u s2 h2 => thn h2 fun c s3 ⟨x, H1, I1, r1, q1⟩ => ?_) h1
  obtain ⟨d, rfl, q⟩ := bU_to q1
  cases r1
  exact wpAny_truthy_bool ⟨H1, I1, q⟩
def tChU (r r' : R2) (ta tb tc : TE) : TE := fun σ H Q => ta σ H fun x H1 => tb σ H1 fun y H2 => r x y H2 fun z H3 => bU z fun k => if k = true then tc σ H3 fun w' H4 => r' y w' H4 Q else Q (.bl false) H3
end
end LX

set_option Elab.async false
set_option linter.all false
set_option maxRecDepth 100000
namespace LX
section
open PySem PySem.Spec PySem.Calls PyProof.Rows PySem.W Builtin Builtin.ObjectAttr Builtin.Getset_descriptor
/-! ### isinstance of an exception of a class of the program -/
def AtC (h : Heap) (x C : Addr) : Prop := ∃ o, h.get? x = some o ∧ o.cls = .ref C
theorem AtC.type {M : Model} {h : Heap} {x C : Addr} (I : AtC h x C) : Looks M h (typeOf (.ref x)) (.ref C) := by
  obtain ⟨o, h1, h2⟩ := I
  exact h2 ▸ (Looks.ld h1).andThen .now
theorem looks_cfind {K : Frag} {M : Model} {h : Heap} (X : K.In h) {x C : Addr} {name : Str} {g a : Value} (ha : findIn K (.ref C) name = some (some a)) (hg : specialIn K a "__get__" = some (some g)) (hd : takesIn K a = some true) :
    Looks M h (find (.ref x) (.ref C) name) (.bind g a) := by
  have L1 := looks_findIn (M := M) X ha
  have L2 : Looks M h (getOf (some a)) (some g) := looks_specialIn X hg
  have L3 := looks_takesIn (M := M) X hd
  refine L1.andThen (L2.andThen ?_)
  exact (show Looks M h (dataDescriptor? (some a) (some g)) (some (g, a)) from L3.andThen .now).andThen (Looks.tag .now)
variable {prog : Program} {w : World} {A : Around} {E : Value → Shared → Prop} {s : Shared} {K : Frag} {x C : Addr}
theorem class_getX {tp : Value} {R : Result → Shared → Prop} (X : K.In s.heap) (I : AtC s.heap x C) (hm : mroIn K C (.type "object") = some true)
    (h : R (.ok (.ret (.ref C))) s) : codeAny (model prog w) A (.call (.builtin "getset_descriptor.__get__") ⟨[.builtin "object.__class__", .ref x, tp], []⟩) R s := by
  obtain ⟨hh, g, dr, t, os⟩ := s
  have L0 := I.type (M := model prog w)
  have L1 := looks_mroIn (M := model prog w) X hm
  refine codeAny_call_builtin KF.slot_gs.plain KF.entry_gs (KF.slot_gs.check _ _ _ _ _ _ _ _ KF.type_class (KF.args_gs _ _ _) ?_)
  unfold Builtin.«getset_descriptor.__get__» descrGet
  rw [dga_obj]
  refine wpAny_bind (wpAny_pure ?_)
  unfold descrGetter descrCheckInstance descrNameAndClass isInstance
  simp only [KF.owner_class]
  repeat lk
  refine ⟨Code.quiet_builtin _ (by decide +kernel), codeAny_builtin KF.entry_class ?_⟩
  unfold Builtin.«object.__class__» shownTypeOf
  repeat lk
  exact h
theorem exc_check {nameV : Value} {Q : Unit → Shared → Prop} (X : K.In s.heap) (I : AtC s.heap x C) (hb : mroIn K C (.type "BaseException") = some true) (hq : Q () s) :
    wpAny (model prog w) A (checkBuiltinCall "BaseException.__getattribute__" ⟨[.ref x, nameV], []⟩) Q E s := by
  have hk : builtinKind "BaseException.__getattribute__" = some .slot := by decide +kernel
  have hsplit : splitId "BaseException.__getattribute__" = some ("BaseException", "__getattribute__") := by decide +kernel
  have ha := F.args_bexc_ga (.ref x) nameV
  have LI : Looks (model prog w) s.heap (isInstance (.ref x) (.type "BaseException")) true := I.type.andThen (looks_mroIn X hb)
  obtain ⟨hh, g, dr, t, os⟩ := s
  simp only [checkBuiltinCall, hk, hsplit]
  refine wpAny_bind (LI.at ?_)
  repeat (first | assumption | wp_step)
structure ExcC (K : Frag) (C : Addr) : Prop where
  ga : findIn K (.ref C) "__getattribute__" = some (some (.builtin "BaseException.__getattribute__"))
  gr : findIn K (.ref C) "__getattr__" = some none
  cl : findIn K (.ref C) "__class__" = some (some (.builtin "object.__class__"))
  sp : specialIn K (.builtin "object.__class__") "__get__" = some (some (.builtin "getset_descriptor.__get__"))
  tk : takesIn K (.builtin "object.__class__") = some true
  mo : mroIn K C (.type "object") = some true
  mb : mroIn K C (.type "BaseException") = some true
theorem exc_entry {tk : Tok} {Q : Fin → Shared → Prop} (Z : ExcC K C) (X : K.In s.heap) (I : AtC s.heap x C) (hq : Q (.done (.ret (.ref C))) s) :
    wpAny (model prog w) A (Builtin.«object.__getattribute__» ⟨[.ref x, .str "__class__" tk], []⟩) Q E s := by
  obtain ⟨hh, g, dr, t, os⟩ := s
  have L0 := I.type (M := model prog w)
  have L1 := looks_cfind (M := model prog w) (x := x) X Z.cl Z.sp Z.tk
  repeat (any_goals (first | assumption | with_reducible refine L0.at ?_ | with_reducible refine L1.at ?_ | wp_step))
  refine class_getX X I Z.mo ?_
  repeat (any_goals (first | assumption | wp_step))
theorem exc_by {tk : Tok} {fill expr : Bool} {Q : Value → Shared → Prop} (Z : ExcC K C) (X : K.In s.heap) (I : AtC s.heap x C) (hq : Q (.ref C) s) :
    wpAny (model prog w) A (getAttrBy (.ref x) (.str "__class__" tk) fill expr) Q E s := by
  have hs : K.In s.heap ∧ AtC s.heap x C := ⟨X, I⟩
  obtain ⟨hh, g, dr, t, os⟩ := s
  have L0 := I.type (M := model prog w)
  have L1 := looks_findIn (M := model prog w) X Z.ga
  have L2 := looks_findIn (M := model prog w) X Z.gr
  have f3 := F.excAttr_ValueError.ga.bind (.ref x)
  have hx0 : (expr && onTheHeap (Value.builtin "BaseException.__getattribute__")) = false := by cases expr <;> rfl
  have hx2 : (Value.builtin "BaseException.__getattribute__" == Value.builtin "object.__getattribute__") = false := by decide +kernel
  have hx1 : (onTheHeap (Value.ref C) && Value.builtin "BaseException.__getattribute__" == Value.builtin "object.__getattribute__") = false := by rw [hx2]; rfl
  repeat (any_goals (first | assumption | with_reducible refine L0.at ?_ | with_reducible refine L1.at ?_ | with_reducible refine L2.at ?_ | wp_step))
  refine codeAny_call_builtin F.excAttr_ValueError.ga.plain F.entry_bexc_ga (exc_check hs.1 hs.2 Z.mb (exc_entry Z hs.1 hs.2 ?_))
  repeat (any_goals (first | assumption | wp_step))
theorem exc_class {Q : Option Value → Shared → Prop} (Z : ExcC K C) (X : K.In s.heap) (I : AtC s.heap x C) (hq : Q (some (.ref C)) { s with toks := s.toks + 1 }) :
    wpAny (model prog w) A (getAttr? (.ref x) "__class__") Q E s := by
  obtain ⟨hh, g, dr, t, os⟩ := s
  unfold getAttr? getAttrBy?
  refine wpAny_bind (wpAny_mkText (wpAny_bind (wpAny_attempt (exc_by (s := ⟨hh, g, dr, t + 1, os⟩) Z X I ?_))))
  exact wpAny_pure hq
theorem kitx_exc (Z : ExcC K C) : KitX K (.ref x) (.ref C) (fun h => AtC h x C) where
  ty := fun _ _ _ I => I.type
  it := fun _ _ X _ => by
    obtain ⟨cd, hc, _⟩ := Option.bind_eq_some_iff.mp Z.mo
    unfold clsIn at hc
    split at hc
    · rename_i c' d' cd' sl' ho
      intro A' Q' E' s' k q
      unfold isType loadHead
      exact wpAny_bind (wpAny_loadPart (k _ _ (X _ _ ho)) (wpAny_pure q))
    · cases hc
  ne := fun h tp dd its n sl X htp => by
    obtain ⟨cd, hc, _⟩ := Option.bind_eq_some_iff.mp Z.mo
    refine Bool.eq_false_iff.mpr fun q => ?_
    have e : C = tp := Value.ref.inj (beq_iff_eq.mp q)
    subst e
    unfold clsIn at hc
    split at hc
    · rename_i c' d' cd' sl' ho
      have z := (X _ _ ho).symm.trans htp
      cases z
    · cases hc
  ca := fun X I k => exc_class Z X I k
end
section
open PySem PySem.Spec PyProof.Rows L2
def isxU (K : PySem.W.Frag) (ea : Addr) (oe : Obj) : List V → Hp → VK → Prop := fun xs H Q => match xs with
  | [.ref a, c] => a = ea ∧ okC c = true ∧ ∃ C b, oe.cls = .ref C ∧ ExcC K C ∧ PySem.W.kitOne K (.ref C) (cV c) = some b ∧ Q (.bl b) H
  | _ => False
theorem cu_isx {X : Cx} {ea : Addr} {oe : Obj} {xe : Value → Shared → Prop} {K : PySem.W.Frag} (hK : X.K = K) : CallR (markCx X ea oe xe) (.builtin "isinstance") (isxU K ea oe) := by
  subst hK
  intro pins s σ H xs us Q I r h
  unfold isxU at h
  split at h
  · rename_i a c
    obtain ⟨ha, hc, C, b, ho, Z, e, h⟩ := h
    subst ha
    obtain ⟨u1, u2, rfl, r1, r2⟩ := vals2 r
    cases r1
    have eu : u2 = cV c := by
      cases c <;> first | exact r2 | cases hc
    subst eu
    have pe := (I.pin (a, oe) (List.mem_append_left _ (List.mem_append_right _ (List.mem_singleton.mpr rfl)))).1
    exact PySem.W.kia_one (kitx_exc Z) I.kIn ⟨oe, pe, ho⟩ e (fun z => nomatch z) fun tk => ⟨.bl b, H, I.tok tk, rfl, h⟩
  · exact h.elim
end
end LX

set_option Elab.async false
set_option linter.all false
set_option maxRecDepth 100000
namespace LX
section
open PySem PySem.Spec PySem.Calls PyProof.Rows PySem.W
variable {prog : Program} {w : World} {A : Around} {E : Value → Shared → Prop} {s : Shared}
end
section
open PySem PySem.Spec PyProof.Rows L2
variable {X : Cx} {a : Expr} {ta : TE} {p p' pos pos' : Pos}
def tLRev (ta : TE) : TE := fun σ H Q => ta σ H fun v H1 => match v with
  | .ref l => (match H1 l with | some (.lst xs) => ∀ y, H1 y = none → Q (.ref y) (upd H1 y (.lst xs.reverse)) | _ => False)
  | _ => False
def upTo (lo : Int) (n : Nat) : List Int := (List.range n).map fun (k : Nat) => lo + (k : Int)
def tLRng1 (ta : TA) : TE := fun σ H Q => ta σ H fun vs H1 => match vs with
  | [.int j] => 0 ≤ j ∧ j ≤ 1000 ∧ ∀ y, H1 y = none → Q (.ref y) (upd H1 y (.lst ((upTo 0 j.toNat).map V.int)))
  | _ => False
def tLRng2 (ta : TA) : TE := fun σ H Q => ta σ H fun vs H1 => match vs with
  | [.int i, .int j] => -1000 ≤ i ∧ i ≤ 1000 ∧ -1000 ≤ j ∧ j ≤ 1000 ∧ ∀ y, H1 y = none → Q (.ref y) (upd H1 y (.lst ((upTo i (j - i).toNat).map V.int)))
  | _ => False
end
end LX

set_option Elab.async false
set_option linter.all false
set_option maxRecDepth 100000
/-! My own additions to the hand layer, part K: texts, a module's dict, clear. -/
namespace LX
open PySem PySem.Spec PyProof.Rows L2
/-! ### the signs of a text -/
def Its (z : Str) : It := ⟨fun i _ => i < z.cps.size, fun i H x H' => H' = H ∧ ∃ c, z.cps[i]? = some c ∧ x = .str ⟨#[c]⟩, fun i _ => i = z.cps.size⟩
theorem turn_str {P : Program} {w : World} {K : PySem.W.Frag} {tg : Expr} (it : Addr) (z : Str) (t : Tok) (T : String) (hT : T = "str_ascii_iterator" ∨ T = "str_iterator") : Turn P w K tg (Its z) [it] it (fun i h => h.IsStrIter it T z t i) where
  mem := by simp
  obj := fun i h st b hb => by
    have e : b = it := by simpa using hb
    subst e
    obtain ⟨o, e, c, d⟩ := st
    exact ⟨o, e, fun v z => by rw [d] at z; cases z⟩
  keep := fun i h h' st k => by
    obtain ⟨o, e, r⟩ := st
    exact ⟨o, k it (by simp) o e, r⟩
  item := by
    intro X hP hw hK hc i pins s σ H E I hf st hg
    subst hP hw hK
    obtain ⟨f0, f1, f2, f3, f4, f5⟩ := hf it (by simp)
    have W : Walks X.prog X.w X.A it [it] [it] z.cps.size (SignAt z) (fun i h => h.IsStrIter it T z t i) := by
      rcases hT with rfl | rfl
      · exact Walks.strAscii (I.ok.hd hc) it z t
      · exact Walks.strWide (I.ok.hd hc) it z t
    refine W.item i s _ _ hg st fun v h' tk hv st' kk => ?_
    obtain ⟨c, u, hc', rfl⟩ := hv
    have I1 : Inv X pins σ H { s with heap := h', toks := tk } := I.turned (fun b o hb e => kk b o (by simpa using hb) e) f0 f1 f3 f4 f5
    obtain ⟨o, e, cl, d⟩ := id st'
    exact ⟨_, rfl, go_of (s := { s with heap := h', toks := tk }) (n := T) e cl d (by rcases hT with rfl | rfl <;> decide) ⟨.str ⟨#[c]⟩, H, I1, ⟨u, rfl⟩, ⟨rfl, c, hc', rfl⟩, st', fun b hb => (hf b hb).1⟩⟩
  done := by
    intro X hP hw hK hc i pins s σ H E I hf st hg
    subst hP hw hK
    obtain ⟨f0, f1, f2, f3, f4, f5⟩ := hf it (by simp)
    have W : Walks X.prog X.w X.A it [it] [it] z.cps.size (SignAt z) (fun i h => h.IsStrIter it T z t i) := by
      rcases hT with rfl | rfl
      · exact Walks.strAscii (I.ok.hd hc) it z t
      · exact Walks.strWide (I.ok.hd hc) it z t
    have e : i = z.cps.size := hg
    subst e
    exact W.done s _ _ st fun h' tk eb => ⟨rfl, I.turned (fun b o hb e => eb b o (by simpa using hb) e) f0 f1 f3 f4 f5⟩
  self := fun A i s Q E st h => by
    rcases hT with rfl | rfl
    · exact wpAny_pyIter_striter_ascii st h
    · exact wpAny_pyIter_striter_wide st h
section
variable {X : Cx} {tg : Expr}
def iStr (tl : TE) : TI := fun σ H R => tl σ H fun x H1 => match x with | .str z => R (Its z) H1 | _ => False
theorem pi_str {l : Expr} {tl : TE} (hl : PE X l tl) : PI X tg l (iStr tl) := by
  intro pins s σ H R I h
  refine thn (hl pins s σ H _ I h) fun v s1 ⟨x, H1, I1, r1, q1⟩ => ?_
  cases x with
  | str z =>
    obtain ⟨t, rfl⟩ := r1
    have fin : ∀ (T : String), (T = "str_ascii_iterator" ∨ T = "str_iterator") → PIE X pins σ tg R (.ref s1.heap.objs.size) { s1 with heap := s1.heap.push { cls := .type T, data := .fields #[.str z t, .int 0 0] } } := by
      intro T hT
      refine ⟨s1.heap.objs.size, [s1.heap.objs.size], _, _, H1, rfl, I1.kept (t' := s1.toks) fun b o e => Heap.get?_push_of_some _ e, turn_str _ z t T hT, ⟨_, Heap.get?_push_size _ rfl, rfl, rfl⟩, fun b hb => ?_, q1⟩
      have e : b = s1.heap.objs.size := by simpa using hb
      subst e
      exact I1.fpOk (Nat.le_refl _) (I1.hok.fresh (Nat.le_refl _))
    cases ha : z.cps.all (· < 128)
    · exact wpAny_pyIter_wide ha (fin _ (.inr rfl))
    · exact wpAny_pyIter_ascii ha (fin _ (.inl rfl))
  | _ => exact q1.elim
end
theorem for_str {te : TE} {g : TG} {tb : TS} {D : Ends} {σ : L2.St} {H : Hp} (z : Str) (Pv : Nat → L2.St → Hp → Prop) (ht : ∀ Q : VK, te σ H Q = Q (.str z) H) (h0 : Pv 0 σ H)
    (hs : ∀ i c σ H, z.cps[i]? = some c → Pv i σ H → g (.str ⟨#[c]⟩) σ H fun σ2 H2 => tb { D with nx := Pv (i + 1), ct := Pv (i + 1), bk := D.nx } σ2 H2) (hd : ∀ σ H, Pv z.cps.size σ H → D.nx σ H) :
    tFor (iStr te) g tb D σ H := by
  unfold tFor iStr
  rw [ht]
  refine ⟨fun i m σ H => m = z.cps.size - i ∧ i ≤ z.cps.size ∧ Pv i σ H, ⟨z.cps.size, by simp, Nat.zero_le _, h0⟩, ?_⟩
  rintro i m σ H ⟨rfl, hi, p⟩
  by_cases hlt : i < z.cps.size
  · refine .inr ⟨hlt, Pv (i + 1), fun σ' H' p' => ⟨z.cps.size - (i + 1), by omega, rfl, hlt, p'⟩, fun x H' y => ?_⟩
    obtain ⟨e, c, hc, ex⟩ := y
    subst e ex
    exact hs i c σ _ hc p
  · have e : i = z.cps.size := by omega
    subst e
    exact .inl ⟨rfl, hd σ H p⟩
/-! ### join -/
theorem strs_of : ∀ {ys : List Str} {us : List Value}, Vals (ys.map V.str) us → StrsAre us ys
  | [], _, .nil => .nil
  | y :: r, _, .cons q t => by
    obtain ⟨tk, rfl⟩ := q
    exact .cons y tk (strs_of t)
section
variable {X : Cx} {o e : Expr} {es : List Expr} {to : TE} {t : TA} {apos cpos : Pos}
def joinU : V → List V → Hp → VK → Prop := fun x vs H Q => match x, vs with
  | .str z, [.ref l] => (match H l with | some (.lst xs) => ∃ ys : List Str, xs = ys.map V.str ∧ (ys.map (·.length)).sum + ys.length * z.length ≤ 16777216 ∧ Q (.str (Txt.join z ys)) H | _ => False)
  | _, _ => False
theorem mt_join : MtR X "str.join" joinU := by
  intro pins s σ H x vs v us Q I rx rv h
  unfold joinU at h
  split at h
  · split at h
    · rename_i z l _ xs hH
      obtain ⟨ys, rfl, hz, q⟩ := h
      obtain ⟨t, rfl⟩ := rx
      obtain ⟨u, rfl, ru⟩ := rv.one
      cases ru
      obtain ⟨z', its, n, r, hl, e⟩ := I.lstM hH
      exact join_list (items := its.toArray) ⟨_, e, rfl, n, rfl⟩ (strs_of r) hz fun t' k => ⟨.str _, H, I.tok _, ⟨_, rfl⟩, q⟩
    · exact h.elim
  · exact h.elim
def isStrV : V → Prop
  | .str _ => True
  | _ => False
def tJoin (to : TE) (t : TA) : TE := fun σ H Q => to σ H fun x H1 => isStrV x ∧ t σ H1 fun xs H2 => joinU x xs H2 Q
theorem eu_join (ho : PE X o to) (ha : PA X (e :: es) t)
    (hbase : attributeBase o "join" X.env (eval o X.env) = eval o X.env := by rfl)
    (hfew : ((backTo cpos (starEach (e :: es) X.env)).all (fun x => !x.1) && (backToKw cpos (keywordEach [] X.env)).all (fun x => x.1.isSome)
      && decide ((e :: es).length + ([] : List Keyword).length + (if ([] : List Keyword).isEmpty then 0 else 1) < 30)) = true := by rfl)
    (hline : (apos.endLine == cpos.line) = true := by rfl) (hs : starEach (e :: es) X.env = (false, eval e X.env) :: starEach es X.env := by rfl) (hplain : (backTo cpos (starEach es X.env)).any (·.1) = false := by rfl) :
    PE X (.Call (.Attribute o "join" apos) (e :: es) [] cpos) (tJoin to t) := by
  intro pins s σ H Q I h
  refine wpAny_Call_method_late hbase hfew hline rfl (thn (ho pins s σ H _ I h) fun v s1 ⟨x, H1, I1, r1, ty, q1⟩ => ?_)
  have ty' : tyV X.K "str" x H1 := by cases x <;> first | rfl | exact ty.elim
  obtain ⟨h1, h2⟩ := tyV_is I1 r1 ty'
  refine ⟨"str", "str.join", PySem.F.plainAttrs_str, PySem.F.slot_str_join, PySem.F.type_str_join, h1, h2, ?_⟩
  have hA := ha cpos pins s1 σ H1 _ I1 q1
  rw [hs] at hA ⊢
  refine Calls.callWith_builtin (by show (false || (backTo cpos (starEach es X.env)).any (·.1)) = false; rw [hplain] <;> rfl) (Calls.evalArgs_plain ?_)
  exact thn hA fun us s2 ⟨vs, H2, I2, r2, q2⟩ => mt_join pins s2 σ H2 x vs v us Q I2 r1 r2 q2
end
/-! ### a text, repeated -/
def mulSU : R2 := fun x y H Q => match x, y with
  | .str z, .int n => (1 < n ∧ 0 < z.length ∧ z.length * n.toNat ≤ 1000000 ∧ n ≤ 1000000) ∧ Q (.str ⟨(List.replicate n.toNat z.cps).foldl (· ++ ·) #[]⟩) H
  | _, _ => False
theorem rep_size (a : Array Nat) : ∀ (n : Nat) (b : Array Nat), ((List.replicate n a).foldl (· ++ ·) b).size = b.size + a.size * n
  | 0, b => by simp
  | n + 1, b => by rw [List.replicate_succ, List.foldl_cons, rep_size a n, Array.size_append, Nat.mul_succ]; omega
theorem ou_mulS {X : Cx} : OpR X (binaryOp .Mult) mulSU := by
  intro pins s σ H x y v u Q I rx ry h
  unfold mulSU at h
  split at h
  · rename_i z n
    obtain ⟨⟨h1, h2, h3, h4⟩, q⟩ := h
    obtain ⟨t, rfl⟩ := rx
    obtain ⟨t', rfl⟩ := ry
    have hz := sizeLine_eq
    refine P.mul_str ?_ ?_ ?_ ?_
    · rw [decide_eq_false (by omega), decide_eq_false (by omega)]; rfl
    · intro _ _ hgt
      have : (z.length : Int) * n ≤ 1000000 := by
        have e : ((z.length * n.toNat : Nat) : Int) = (z.length : Int) * n := by rw [Int.natCast_mul, Int.toNat_of_nonneg (by omega)]
        omega
      have h5 : (z.length : Int) ≤ (2 ^ 63 - 1) / n := (Int.le_ediv_iff_mul_le (by omega)).mpr (by omega)
      omega
    · intro _ _
      unfold Builtin.Str.tooLong
      exact decide_eq_false (by omega)
    · rw [if_neg (by omega), if_neg (by simp; omega)]
      refine ⟨?_, .str _, H, I.tok _, ⟨_, rfl⟩, q⟩
      show (Array.size _) ≤ _
      rw [rep_size]
      change 0 + z.length * n.toNat ≤ _
      omega
  · exact h.elim
/-! ### slices of texts -/
def cutS (x : Str) (lo hi : Option Int) : Str := ⟨((x.cps.toList.drop (HT.sIx x.length 0 lo)).take (HT.sIx x.length x.length hi - HT.sIx x.length 0 lo)).toArray⟩
theorem slice_cut (x : Str) (lo hi : Option Int) : Txt.slice x lo hi = cutS x lo hi := by
  have e : Builtin.Str.strSliceIndices lo hi 1 x.length = (List.range (HT.sIx x.length x.length hi - HT.sIx x.length 0 lo)).map (HT.sIx x.length 0 lo + ·) := by
    obtain ⟨h1, h2, h3⟩ := slice_bounds lo hi x.length
    have : Builtin.Str.strSliceIndices lo hi 1 x.length = sliceRange (sliceBounds lo hi none x.length).1 (sliceBounds lo hi none x.length).2.1 (sliceBounds lo hi none x.length).2.2 := by cases lo <;> cases hi <;> rfl
    rw [this, h1, h2, h3, sliceRange_one]
  unfold Txt.slice cutS
  rw [e, pick_run]
  by_cases c : ((1 : Int) == 1 && ((List.range (HT.sIx x.length x.length hi - HT.sIx x.length 0 lo)).map (HT.sIx x.length 0 lo + ·)).length == x.length) = true
  · rw [if_pos c]
    simp only [List.length_map, List.length_range] at c
    have c' : HT.sIx x.length x.length hi - HT.sIx x.length 0 lo = x.length := by simpa using c
    have l1 := HT.sIx_le x.length x.length (Nat.le_refl _) hi
    rw [c']
    by_cases z : x.length = 0
    · have : x.cps = #[] := Array.eq_empty_of_size_eq_zero z
      cases x with
      | mk cps => simp only at this; subst this; simp
    · have : HT.sIx x.length 0 lo = 0 := by omega
      rw [this, List.drop_zero]
      have e2 : x.cps.toList.length = x.length := by simp [Str.length]
      rw [← e2, List.take_length]
  · rw [if_neg c]
def rSlS : V → Option Int → Option Int → Hp → VK → Prop := fun x lo hi H Q => match x with | .str z => z.length ≤ sizeLine ∧ Q (.str (cutS z lo hi)) H | _ => False
theorem part_of {v : Value} {o : Option Int} (h : IsPart v o) : ∃ l : Option (Int × Tok), v = partValue l ∧ l.map (·.1) = o := by
  cases h with
  | none => exact ⟨none, rfl, rfl⟩
  | int i t => exact ⟨some (i, t), rfl, rfl⟩
theorem sl_str {X : Cx} : SlR X rSlS := by
  intro pins s σ H x v vl vu lo hi sl Q I rx hs pl pu h
  unfold rSlS at h
  split at h
  · rename_i z
    obtain ⟨hz, q⟩ := h
    obtain ⟨t, rfl⟩ := rx
    obtain ⟨l, rfl, el⟩ := part_of pl
    obtain ⟨u, rfl, eu⟩ := part_of pu
    refine ⟨"str", _, slot_str_getitem.lookup, typeIs_str _ _ _, wpAny_getItem_str_slice (l := l) (u := u) (st := none) hs rfl ?_⟩
    have key : ∀ t' k, EP X pins σ Q (.str (Txt.slice z lo hi) t') { s with toks := k } := fun t' k => by
      rw [slice_cut]
      exact ⟨.str _, H, I.tok _, ⟨_, rfl⟩, q⟩
    have h1 := Txt.slice_le z lo hi
    unfold sliceMade slicePicked
    rw [el, eu]
    exact post_val_or_str ⟨Nat.le_trans h1 hz, key⟩
  · exact h.elim
/-! ### an item of a text -/
def ixSU : R2 := fun x y H Q => match x, y with
  | .str z, .int i => (match atI z.cps.toList i with | some c => z.length ≤ sizeLine ∧ Q (.str ⟨#[c]⟩) H | none => False)
  | _, _ => False
theorem xu_str {X : Cx} : IxR X ixSU := IxR.imp ix_str fun x y H Q h => by
  unfold ixSU at h
  split at h
  · split at h
    · exact ⟨_, _, _, rfl, rfl, h.1, ‹_›, h.2⟩
    · exact h.elim
  · exact h.elim
/-! ### a module's dict -/
inductive Ents (w : World) : List DictEntry → List (Key × V) → Prop
  | nil : Ents w [] []
  | cons {e : DictEntry} {k : Key} {v : V} {es : List DictEntry} {kvs : List (Key × V)} : keyIs k e.key = true → e.hash = keyH w k → RelV v e.val → Ents w es kvs → Ents w (e :: es) ((k, v) :: kvs)
structure GD (w : World) (K : PySem.W.Frag) (d : Addr) (kvs : List (Key × V)) : Prop where
  ne : (d == sysModules) = false
  ob : ∃ (o : Obj) (es : Array DictEntry) (ep : Nat), K.lookup d = some o ∧ o.ExactDict ∧ o.data = .dict es ep ∧ Ents w es.toList kvs
  nd : (kvs.map (·.1)).Nodup
theorem Ents.vals {P : Program} {w : World} : ∀ {es : List DictEntry} {kvs : List (Key × V)}, Ents w es kvs → ∃ vs, KV kvs vs ∧ Pairs (mixKind P w) es vs ∧ vs.map (·.1) = kvs.map (·.1) ∧ ∀ e ∈ es, ∃ k, (mixKind P w).is k e.key = true ∧ e.hash = (mixKind P w).hash k
  | _, _, .nil => ⟨[], .nil, .nil, rfl, fun e h => nomatch h⟩
  | _, _, .cons (e := e) (k := k) (v := v) h1 h2 h3 t => by
    obtain ⟨vs, a, b, c, d⟩ := Ents.vals (P := P) t
    refine ⟨(k, e.val) :: vs, .cons ⟨rfl, h3⟩ a, .cons h1 rfl b, by simp [c], fun x hx => ?_⟩
    rcases List.mem_cons.mp hx with rfl | hx
    · exact ⟨k, h1, h2⟩
    · exact d x hx
theorem GD.dict {P : Program} {w : World} {K : PySem.W.Frag} {d : Addr} {kvs : List (Key × V)} {h : Heap} (g : GD w K d kvs) (hk : K.In h) : ∃ vs, KV kvs vs ∧ h.DictOf (mixKind P w) d vs := by
  obtain ⟨o, es, ep, h1, h2, h3, h4⟩ := g.ob
  obtain ⟨vs, a, b, c, dd⟩ := h4.vals (P := P)
  refine ⟨vs, a, o, es, ep, hk _ _ h1, h2, h3, fun e he => dd e (by simpa using he), b, by rw [c]; exact g.nd⟩
section
variable {X : Cx} {i o : Expr} {pos p : Pos} {ty : TE} {d : Addr} {kvs : List (Key × V)} {x : Str}
def tGGet (kvs : List (Key × V)) (ty : TE) : TE := fun σ H Q => ty σ H fun y H1 => match keyOf y with | some k => (match valV kvs k with | some v => Q v H1 | none => False) | none => False
theorem eu_gget (g : GD X.w X.K d kvs) (hg : Gl X x) (hm : X.mg x = some (.ref d)) (hi : PE X i ty) (hs : NoSl i := by intro _ _; rfl) (hd : (x == ("__debug__" : Str)) = false := by decide) : PE X (.Subscript (.Name x p) i pos) (tGGet kvs ty) := by
  intro pins s σ H Q I h
  refine subD_of PySem.F.slot_dict_getitem.lookup hs (thn (pe_glob (X := X) (v := .ref d) hg hm rfl hd pins s σ H (fun v H' => v = .ref d ∧ H' = H) I ⟨rfl, rfl⟩) fun u s1 ⟨x, H1, I1, rx, ex, eH⟩ => ?_)
  subst ex eH
  obtain rfl : u = Value.ref d := rx
  refine thn (hi pins s1 σ H1 _ I1 h) fun iv s2 ⟨y, H2, I2, ry, z⟩ => ?_
  obtain ⟨vs, rel, dd⟩ := g.dict (P := X.prog) I2.kIn
  refine ⟨dd.typeIs, ?_⟩
  dsimp only at z
  cases hk : keyOf y with
  | none => rw [hk] at z; exact z.elim
  | some k =>
    rw [hk] at z
    dsimp only at z
    have ey := keyOf_to hk
    subst ey
    cases hv : valV kvs k with
    | none => rw [hv] at z; exact z.elim
    | some v =>
      rw [hv] at z
      obtain ⟨w', hw, rw'⟩ := RelO.some_of (v := v) (o := valueAt vs k) (by rw [← hv]; exact rel.val k)
      exact wpAny_getItem_of (kV_is ry) dd.mapOf hw ⟨v, H2, I2.tok _, rw', z⟩
def tGIn (neg : Bool) (kvs : List (Key × V)) (ty : TE) : TE := fun σ H Q => ty σ H fun y H1 => match keyOf y with | some k => Q (.bl (if neg then !(valV kvs k).isSome else (valV kvs k).isSome)) H1 | none => False
theorem cu_gnotin (g : GD X.w X.K d kvs) (hg : Gl X x) (hm : X.mg x = some (.ref d)) (hi : PE X i ty) (hd : (x == ("__debug__" : Str)) = false := by decide) : PC X .NotIn i (.Name x p) (tGIn true kvs ty) := by
  intro pins s σ H Q I h
  refine thn (hi pins s σ H _ I h) fun iv s1 ⟨y, H1, I1, ry, q1⟩ => thn (pe_glob (X := X) (v := .ref d) hg hm rfl hd pins s1 σ H1 (fun v H' => v = .ref d ∧ H' = H1) I1 ⟨rfl, rfl⟩) fun u s2 ⟨x, H2, I2, rx, ex, eH⟩ => ?_
  subst ex eH
  obtain rfl : u = Value.ref d := rx
  obtain ⟨vs, rel, dd⟩ := g.dict (P := X.prog) I2.kIn
  cases hk : keyOf y with
  | none => rw [hk] at q1; exact q1.elim
  | some k =>
    rw [hk] at q1
    dsimp only at q1
    have ey := keyOf_to hk
    subst ey
    refine wpAny_notIn_of (kV_is ry) g.ne dd.mapOf ?_
    rw [← (rel.val k).isSome_eq]
    exact ⟨.bl _, H2, I2.tok _, rfl, q1⟩
end
/-! ### clear -/
def clrU : V → List V → Hp → VK → Prop := fun x vs H Q => match x, vs with
  | .ref l, [] => (match H l with | some (.lst xs) => Q .non (upd H l (.lst [])) | _ => False)
  | _, _ => False
section
variable {X : Cx} {o : Expr} {to : TE} {name : Str} {apos cpos : Pos} {id : String} {r : V → List V → Hp → VK → Prop}
def tLM0 (r : V → List V → Hp → VK → Prop) (to : TE) : TE := fun σ H Q => to σ H fun x H1 => isLst x H1 ∧ r x [] H1 Q
end
end LX

set_option Elab.async false
set_option linter.all false
set_option maxRecDepth 100000
namespace KW
open PySem L2 LX Lf
seal L2.PE L2.PT L2.PW L2.PS L2.PSs L2.PA L2.PI L2.PG L2.PC LX.PH LX.PIf L2.PPs L2.PO L2.OpR L2.UnR L2.CallR L2.IxR L2.MtR L2.MtM
local macro_rules | `(tactic| simp_arith [$xs,*]) => `(tactic| simp only [tRet, tRetN, tIfS, tAsg, gName, tDrop, tNext, vU, tC, tOp, tUn, rIU, rIC, rPowU, neg_i, rIsNU, rNotNU, tTestU, bU, tAnd, tOr, tNot, tAndU, tOrU, tNotU, L2.tIf, tFldU, fldU, sFldU, setU, sFldAugU, iaddU, tMethU, recU, tCallU, tMakeU, tCons, tNil, tCB, allU, isiU, minU, tDGetU, dgU, keyOf, sDPutU, dpU, sLPutU, lpU, tTup, tLst, tComp, tDNewK, fvals, L2.start, cx_body, cx_blk, cx_try, cx_mark, List.map_cons, List.map_nil, List.length_cons, List.length_nil, List.cons_append, List.nil_append, List.append_nil, List.getElem?_cons_zero, List.getElem?_cons_succ, List.replicate, List.set_cons_zero, List.set_cons_succ, Nat.sub_self, Nat.add_one_sub_one, Nat.sub_zero, true_and, and_true, scal, if_true, reduceIte, Bool.false_eq_true, Option.join_some, Option.join, upd_same, give_p, give_n, give_0, add_eq, addO, mul_eq, mulO, len_eq, lenO, list_eq, listO, int_eq, intO, oneR, ix_eq, ixO, eq_eq, ne_eq', gEq_t, gEq_f, gNe_t, gNe_f, Option.bind_some, id_eq, tLM, isLst, appU, pop0U, idxU, idxO, cntU, inU, inO, listDU, sortU, tDiU, diU, tDPopU, isDK, dpopU, tChU, isxU, tLRng1, tLRng2, tLRev, tJoin, isStrV, mulSU, ixSU, tGGet, tGIn, clrU, tLM0, tAug, ipI, $xs,*])
def top (i : Nat) : Stmt := PySem.Challenge.pw_lockflight_k18_texts_refused.main.body.getD i (.Pass ⟨0, 0, 0, 0⟩)
abbrev s_read_order : Stmt := top 7
abbrev s_l_cell_at : Stmt := top 9
abbrev s_l_order : Stmt := top 10
abbrev s_l_refused : Stmt := top 11
abbrev s_law : Stmt := top 12
structure Adr where
  c_LockError : Addr
  c_BadFlight : Addr
  c_BadText : Addr
  c_NoGate : Addr
  c_NoFall : Addr
  c_NoBoat : Addr
  c_NotFirst : Addr
  c_Shut : Addr
  c_Occupied : Addr
  k_MOST_LETTERS : Tok
  d_SIDES : Addr
  f_read_order : Addr
  d_read_order : FuncData
  f_l_cell_at : Addr
  d_l_cell_at : FuncData
  f_l_order : Addr
  d_l_order : FuncData
  f_l_refused : Addr
  d_l_refused : FuncData
  f_law : Addr
  d_law : FuncData
structure Txt (w : World) (K : PySem.W.Frag) (mg : Str → Option Value) (t : Adr) : Prop where
  g_LockError : mg "LockError" = some (.ref t.c_LockError)
  g_BadFlight : mg "BadFlight" = some (.ref t.c_BadFlight)
  g_BadText : mg "BadText" = some (.ref t.c_BadText)
  x_LockError : PySem.W.excIn K t.c_LockError [.type "ValueError", .type "Exception", .type "BaseException", .type "object"] "ValueError.__new__" = true
  x_BadFlight : PySem.W.excIn K t.c_BadFlight [.type "ValueError", .type "Exception", .type "BaseException", .type "object"] "ValueError.__new__" = true
  x_BadText : PySem.W.excIn K t.c_BadText [.type "ValueError", .type "Exception", .type "BaseException", .type "object"] "ValueError.__new__" = true
  g_MOST_LETTERS : mg "MOST_LETTERS" = some (.int 40 t.k_MOST_LETTERS)
  g_SIDES : mg "SIDES" = some (.ref t.d_SIDES)
  D_SIDES : GD w K t.d_SIDES [(Sum.inr (Str.ofString "u"), V.str (Str.ofString "up")), (Sum.inr (Str.ofString "d"), V.str (Str.ofString "down"))]
  F_read_order : Fun K "read_order" "read_order" s_read_order t.f_read_order t.d_read_order
  b_read_order : Binds K t.d_read_order ["text"] []
  g_read_order : mg "read_order" = some (.ref t.f_read_order)
  F_l_cell_at : Fun K "_law_cell_at" "_law_cell_at" s_l_cell_at t.f_l_cell_at t.d_l_cell_at
  b_l_cell_at : Binds K t.d_l_cell_at ["script", "k"] []
  g_l_cell_at : mg "_law_cell_at" = some (.ref t.f_l_cell_at)
  F_l_order : Fun K "_law_order" "_law_order" s_l_order t.f_l_order t.d_l_order
  b_l_order : Binds K t.d_l_order ["script", "start", "size"] []
  g_l_order : mg "_law_order" = some (.ref t.f_l_order)
  F_l_refused : Fun K "_law_refused" "_law_refused" s_l_refused t.f_l_refused t.d_l_refused
  b_l_refused : Binds K t.d_l_refused ["text"] []
  g_l_refused : mg "_law_refused" = some (.ref t.f_l_refused)
  F_law : Fun K "law" "law" s_law t.f_law t.d_law
  b_law : Binds K t.d_law ["script"] []
  g_law : mg "law" = some (.ref t.f_law)
  z_ValueError : mg "ValueError" = none
  z_isinstance : mg "isinstance" = none
  z_len : mg "len" = none
  z_range : mg "range" = none
  w_BadText : ExcC K t.c_BadText
  q_int_int : PySem.W.kitOne K (.type "int") (.type "int") = some true
  q_int_bool : PySem.W.kitOne K (.type "int") (.type "bool") = some false
  q_bool_bool : PySem.W.kitOne K (.type "bool") (.type "bool") = some true
  q_list_list : PySem.W.kitOne K (.type "list") (.type "list") = some true
  q_BT_BT : PySem.W.exmOne K (.ref t.c_BadText) (.ref t.c_BadText) = some true
  q_i_BT_LE : PySem.W.kitOne K (.ref t.c_BadText) (.ref t.c_LockError) = some true
  q_i_BT_VE : PySem.W.kitOne K (.ref t.c_BadText) (.type "ValueError") = some true
  q_i_BT_BF : PySem.W.kitOne K (.ref t.c_BadText) (.ref t.c_BadFlight) = some false

theorem ixN_nat {n : Nat} {i : Int} (h0 : 0 ≤ i) (h1 : i < n) : ixN n i = some i.toNat := by
  unfold ixN; simp [h0, h1]
def sid (b : Bool) : V := .str (if b then "down" else "up")
def sidV (l : List Bool) : List V := l.map sid
theorem sid_eq (b : Bool) : sid b = .str (if b then Str.ofString "down" else Str.ofString "up") := by unfold sid; cases b <;> rfl
def cellOf (ns : List Int) (k : Int) : Int := ns.getD k.toNat 0
theorem same_was {H H' : Hp} (s : Same H H') {b : Addr} (h : H' b = none) : H b = none := by
  cases q : H b with
  | none => rfl
  | some o => rw [s b o q] at h; cases h
section
variable {P : Program} {w : World} {K : PySem.W.Frag} {mg : Str → Option Value} {base : Heap} {t : Adr}
inductive sp_cell (K : PySem.W.Frag) (vs : List V) (H : Hp) (Q : VK) (E_ : XK) : Prop
  | mk (a : Addr) (ns : List Int) (k : Int) (z0 : vs = [.ref a, .int k]) (z1 : SqL K H a (ns.map V.int)) (z2 : 0 ≤ k) (z3 : Q (.int (cellOf ns k)) H) : sp_cell K vs H Q E_
theorem sc_l_cell_at : FnScope ["script", "k"] ["script", "k"] (defScope s_l_cell_at) := ⟨rfl, rfl, rfl, by decide +kernel, rfl, by decide +kernel, by decide +kernel⟩
set_option maxHeartbeats 4000000 in
theorem ok_l_cell_at (T : Txt w K mg t) : FnOk P w K mg base (CXe P w) 1 t.f_l_cell_at t.d_l_cell_at ["script", "k"] (sp_cell K) := by
  refine okX T.F_l_cell_at sc_l_cell_at (fun vs H Q E h => ?_) (fun cdv A outer s H vs Q E hr h => ?_)
  · obtain ⟨a, ns, k, rfl, _⟩ := h; rfl
  · obtain ⟨a, ns, i, rfl, hS, h0, k⟩ := h
    refine ⟨_, (pss_cons (ps_if (tu_cmp ou_lt (pu 1) (pe_callB (len_seqK (K := K) rfl) rfl T.z_len PySem.boot_len (pa_cons (pu 0) pa_nil)) (nomark _)) (pss_one (ps_ret (eu_ix (ix_listK (K := K) rfl) (pu 0) (pu 1)))) pss_nil)
 (pss_one (ps_ret pe_int))), ?_⟩
    try simp_arith [tSeq]
    refine ⟨a, _, rfl, .inl hS, ?_⟩
    simp only [List.length_map]
    by_cases c : i < (ns.length : Int)
    · simp only [c, decide_true, if_true]
      refine ⟨a, _, i, .int (cellOf ns i), rfl, rfl, hS, ?_, k⟩
      unfold atI cellOf
      rw [List.length_map, ixN_nat h0 c]
      have : i.toNat < ns.length := by omega
      simp [List.getD, this]
    · simp only [c, decide_false, Bool.false_eq_true, if_false]
      have e : cellOf ns i = 0 := by
        unfold cellOf
        have : ns.length ≤ i.toNat := by omega
        simp [List.getD, this]
      rw [e] at k
      exact k
end
end KW

set_option Elab.async false
set_option linter.all false
set_option maxRecDepth 100000
namespace KW
open PySem L2 LX Lf
seal L2.PE L2.PT L2.PW L2.PS L2.PSs L2.PA L2.PI L2.PG L2.PC LX.PH LX.PIf L2.PPs L2.PO L2.OpR L2.UnR L2.CallR L2.IxR L2.MtR L2.MtM
local macro_rules | `(tactic| simp_arith [$xs,*]) => `(tactic| simp only [tRet, tRetN, tIfS, tAsg, gName, tDrop, tNext, vU, tC, tOp, tUn, rIU, rIC, rPowU, neg_i, rIsNU, rNotNU, tTestU, bU, tAnd, tOr, tNot, tAndU, tOrU, tNotU, L2.tIf, tFldU, fldU, sFldU, setU, sFldAugU, iaddU, tMethU, recU, tCallU, tMakeU, tCons, tNil, tCB, allU, isiU, minU, tDGetU, dgU, keyOf, sDPutU, dpU, sLPutU, lpU, tTup, tLst, tComp, tDNewK, fvals, L2.start, cx_body, cx_blk, cx_try, cx_mark, List.map_cons, List.map_nil, List.length_cons, List.length_nil, List.cons_append, List.nil_append, List.append_nil, List.getElem?_cons_zero, List.getElem?_cons_succ, List.replicate, List.set_cons_zero, List.set_cons_succ, Nat.sub_self, Nat.add_one_sub_one, Nat.sub_zero, true_and, and_true, scal, if_true, reduceIte, Bool.false_eq_true, Option.join_some, Option.join, upd_same, give_p, give_n, give_0, add_eq, addO, mul_eq, mulO, len_eq, lenO, list_eq, listO, int_eq, intO, oneR, ix_eq, ixO, eq_eq, ne_eq', gEq_t, gEq_f, gNe_t, gNe_f, Option.bind_some, id_eq, tLM, isLst, appU, pop0U, idxU, idxO, cntU, inU, inO, listDU, sortU, tDiU, diU, tDPopU, isDK, dpopU, tChU, isxU, tLRng1, tLRng2, tLRev, tJoin, isStrV, mulSU, ixSU, tGGet, tGIn, clrU, tLM0, tAug, ipI, $xs,*])
/-! ### lists of sides, compared -/
def sdD (b : Bool) : PyData := .str (if b then Str.ofString "down" else Str.ofString "up")
theorem rd_sid {H : Hp} (b : Bool) : RdV H (sid b) (sdD b) := by rw [sid_eq]; exact .str _
theorem rd_sidV {H : Hp} : ∀ (l : List Bool), RdVs H (sidV l) (l.map sdD)
  | [] => .nil
  | b :: r => .cons (rd_sid b) (rd_sidV r)
theorem lay_sides : ∀ (l : List Bool), PyData.canLayAll0 (l.map sdD) = true
  | [] => rfl
  | b :: r => by
    have e : PyData.canLay0 (sdD b) = true := by cases b <;> decide +kernel
    simp [PyData.canLayAll0, e, lay_sides r]
theorem depth_sides : ∀ (l : List Bool), PyData.depthAll (l.map sdD) = 0
  | [] => rfl
  | b :: r => by simp [PyData.depthAll, PyData.depth, sdD, depth_sides r]
theorem shaped_sides (l : List Bool) : SeqAt.shaped (.list (l.map sdD)) = true := by
  simp [SeqAt.shaped, PyData.canLay0, PyData.depth, lay_sides, depth_sides]
theorem eqv_sd (a b : Bool) : PyData.eqv (sdD a) (sdD b) = decide (a = b) := by
  cases a <;> cases b <;> simp [sdD, PyData.eqv] <;> decide +kernel
theorem eqv_sides : ∀ (x y : List Bool), PyData.eqvAll (x.map sdD) (y.map sdD) = decide (x = y)
  | [], [] => by simp [PyData.eqvAll]
  | [], _ :: _ => by simp [PyData.eqvAll]
  | _ :: _, [] => by simp [PyData.eqvAll]
  | a :: r, b :: q => by
    simp only [List.map_cons, PyData.eqvAll, eqv_sides r q, eqv_sd]
    by_cases h1 : a = b <;> by_cases h : r = q <;> simp [h, h1]
theorem eqv_sideL (x y : List Bool) : PyData.eqv (.list (x.map sdD)) (.list (y.map sdD)) = decide (x = y) := by
  simp only [PyData.eqv]; exact eqv_sides x y
theorem ne_sides {H : Hp} {p q : Addr} {x y : List Bool} {Q : VK} (e1 : H p = some (.lst (sidV x))) (e2 : H q = some (.lst (sidV y))) (k : Q (.bl (!decide (x = y))) H) : rNeD (.ref p) (.ref q) H Q :=
  ⟨_, _, .lst e1 (rd_sidV x), .lst e2 (rd_sidV y), shaped_sides x, shaped_sides y, by rw [eqv_sideL]; exact k⟩
theorem len_sidV (l : List Bool) : (sidV l).length = l.length := by unfold sidV; simp
theorem app_sidV' (l : List Bool) (b : Bool) : sidV l ++ [sid b] = sidV (l ++ [b]) := by unfold sidV; simp
end KW

set_option Elab.async false
set_option linter.all false
set_option maxRecDepth 100000
namespace KW
open PySem L2 LX Lf
seal L2.PE L2.PT L2.PW L2.PS L2.PSs L2.PA L2.PI L2.PG L2.PC LX.PH LX.PIf L2.PPs L2.PO L2.OpR L2.UnR L2.CallR L2.IxR L2.MtR L2.MtM
local macro_rules | `(tactic| simp_arith [$xs,*]) => `(tactic| simp only [tRet, tRetN, tIfS, tAsg, gName, tDrop, tNext, vU, tC, tOp, tUn, rIU, rIC, rPowU, neg_i, rIsNU, rNotNU, tTestU, bU, tAnd, tOr, tNot, tAndU, tOrU, tNotU, L2.tIf, tFldU, fldU, sFldU, setU, sFldAugU, iaddU, tMethU, recU, tCallU, tMakeU, tCons, tNil, tCB, allU, isiU, minU, tDGetU, dgU, keyOf, sDPutU, dpU, sLPutU, lpU, tTup, tLst, tComp, tDNewK, fvals, L2.start, cx_body, cx_blk, cx_try, cx_mark, List.map_cons, List.map_nil, List.length_cons, List.length_nil, List.cons_append, List.nil_append, List.append_nil, List.getElem?_cons_zero, List.getElem?_cons_succ, List.replicate, List.set_cons_zero, List.set_cons_succ, Nat.sub_self, Nat.add_one_sub_one, Nat.sub_zero, true_and, and_true, scal, if_true, reduceIte, Bool.false_eq_true, Option.join_some, Option.join, upd_same, give_p, give_n, give_0, add_eq, addO, mul_eq, mulO, len_eq, lenO, list_eq, listO, int_eq, intO, oneR, ix_eq, ixO, eq_eq, ne_eq', gEq_t, gEq_f, gNe_t, gNe_f, Option.bind_some, id_eq, tLM, isLst, appU, pop0U, idxU, idxO, cntU, inU, inO, listDU, sortU, tDiU, diU, tDPopU, isDK, dpopU, tChU, isxU, tLRng1, tLRng2, tLRev, tJoin, isStrV, mulSU, ixSU, tGGet, tGIn, clrU, tLM0, tAug, ipI, $xs,*])
/-! ### the order that a law draws; a side is true for "down" -/
def ordOf (ns : List Int) (st : Int) (n : Nat) : List Bool := (List.range n).map fun (k : Nat) => decide (cellOf ns (st + (0 + (k : Int))) / 3 % 2 = 1)
theorem ord_len (ns : List Int) (st : Int) (n : Nat) : (ordOf ns st n).length = n := by unfold ordOf; simp
theorem at_side (x : Int) : atI [V.str (Str.ofString "up"), V.str (Str.ofString "down")] (x % 2) = some (sid (decide (x % 2 = 1))) := by
  have : x % 2 = 0 ∨ x % 2 = 1 := by omega
  rcases this with h | h <;> rw [h] <;> rfl
section
variable {P : Program} {w : World} {K : PySem.W.Frag} {mg : Str → Option Value} {base : Heap} {t : Adr}
inductive sp_order (K : PySem.W.Frag) (vs : List V) (H : Hp) (Q : VK) (E_ : XK) : Prop
  | mk (a : Addr) (ns : List Int) (st sz : Int) (z0 : vs = [.ref a, .int st, .int sz]) (z1 : SqL K H a (ns.map V.int)) (z2 : 0 ≤ st) (z3 : 0 ≤ sz) (z4 : sz ≤ 1000) (z5 : ∀ l H', Same H H' → H l = none → H' l = some (.lst (sidV (ordOf ns st sz.toNat))) → Q (.ref l) H') : sp_order K vs H Q E_
theorem sc_l_order : FnScope ["script", "start", "size"] ["script", "start", "size"] (defScope s_l_order) := ⟨rfl, rfl, rfl, by decide +kernel, rfl, by decide +kernel, by decide +kernel⟩
set_option maxHeartbeats 4000000 in
theorem ok_l_order (T : Txt w K mg t) : FnOk P w K mg base (CXe P w) 2 t.f_l_order t.d_l_order ["script", "start", "size"] (sp_order K) := by
  have G_l_cell_at := ok_l_cell_at (P := P) (w := w) (base := base) T
  refine okX T.F_l_order sc_l_order (fun vs H Q E h => ?_) (fun cdv A outer s H vs Q E hr h => ?_)
  · obtain ⟨a, ns, st, sz, rfl, _⟩ := h; rfl
  · obtain ⟨a, ns, st, sz, rfl, hS, h0, h1, h2, k⟩ := h
    refine ⟨_, (pss_one (ps_ret (pe_comp (fv := ["script", "start"]) (ixs := [0, 1]) rfl (by decide +kernel) rfl rfl (pi_range1 rfl T.z_range (pa_cons (pu 2) pa_nil)) (fun cl C s H fp => pif_nil) (fun cl C s H fp => (eu_ix xu_seq (pe_lst (pa_cons pe_str (pa_cons pe_str pa_nil))) (pe_op ou_mod (pe_op ou_fdiv (eu_call G_l_cell_at (hr.mono (by decide)) rfl T.g_l_cell_at T.F_l_cell_at.kp T.b_l_cell_at passF (pa_cons (pu 1) (pa_cons (pe_op ou_add (pu 2) (pu 0)) pa_nil))) pe_int) pe_int)))))), ?_⟩
    try simp_arith [iRng1]
    refine ⟨_, rfl, by omega, by omega, comp_range (fun _ => true) (fun k => sid (decide (cellOf ns (st + (0 + (k : Int))) / 3 % 2 = 1))) ?_ ?_ ?_⟩
    · exact Nat.le_trans (by omega : _ ≤ 1000) (by decide)
    · intro i hi H1 s1 Rt Rf hRt hRf
      try simp_arith [tAll]
      refine ⟨by decide, fun l hl => ?_⟩
      have s2 := s1.trans (same_new (o := HO.lst [V.str (Str.ofString "up"), V.str (Str.ofString "down")]) hl)
      refine ⟨a, ns, st + (0 + (i : Int)), rfl, s2.seq hS, by omega, ?_⟩
      try simp_arith [true_and]
      refine ⟨⟨by decide, by decide⟩, by decide, ?_⟩
      rw [at_side]
      try simp_arith [true_and]
      exact hRt rfl _ s2
    · intro H' s1 D nD
      refine k D _ (s1.trans (same_new nD)) (same_was s1 nD) ?_
      rw [upd_same]
      congr 2
      rw [List.filter_eq_self.mpr (fun _ _ => rfl)]
      unfold ordOf sidV
      rw [List.map_map]
      rfl
end
end KW

set_option Elab.async false
set_option linter.all false
set_option maxRecDepth 100000
namespace KW
open PySem L2 LX Lf
seal L2.PE L2.PT L2.PW L2.PS L2.PSs L2.PA L2.PI L2.PG L2.PC LX.PH LX.PIf L2.PPs L2.PO L2.OpR L2.UnR L2.CallR L2.IxR L2.MtR L2.MtM
local macro_rules | `(tactic| simp_arith [$xs,*]) => `(tactic| simp only [tRet, tRetN, tIfS, tAsg, gName, tDrop, tNext, vU, tC, tOp, tUn, rIU, rIC, rPowU, neg_i, rIsNU, rNotNU, tTestU, bU, tAnd, tOr, tNot, tAndU, tOrU, tNotU, L2.tIf, tFldU, fldU, sFldU, setU, sFldAugU, iaddU, tMethU, recU, tCallU, tMakeU, tCons, tNil, tCB, allU, isiU, minU, tDGetU, dgU, keyOf, sDPutU, dpU, sLPutU, lpU, tTup, tLst, tComp, tDNewK, fvals, L2.start, cx_body, cx_blk, cx_try, cx_mark, List.map_cons, List.map_nil, List.length_cons, List.length_nil, List.cons_append, List.nil_append, List.append_nil, List.getElem?_cons_zero, List.getElem?_cons_succ, List.replicate, List.set_cons_zero, List.set_cons_succ, Nat.sub_self, Nat.add_one_sub_one, Nat.sub_zero, true_and, and_true, scal, if_true, reduceIte, Bool.false_eq_true, Option.join_some, Option.join, upd_same, give_p, give_n, give_0, add_eq, addO, mul_eq, mulO, len_eq, lenO, list_eq, listO, int_eq, intO, oneR, ix_eq, ixO, eq_eq, ne_eq', gEq_t, gEq_f, gNe_t, gNe_f, Option.bind_some, id_eq, tLM, isLst, appU, pop0U, idxU, idxO, cntU, inU, inO, listDU, sortU, tDiU, diU, tDPopU, isDK, dpopU, tChU, isxU, tLRng1, tLRng2, tLRev, tJoin, isStrV, mulSU, ixSU, tGGet, tGIn, clrU, tLM0, tAug, ipI, $xs,*])
/-! ### orders as texts -/
def cd (b : Bool) : Nat := if b then 100 else 117
def ltr (b : Bool) : Str := ⟨#[cd b]⟩
def txt (S : List Bool) : Str := ⟨(S.map cd).toArray⟩
def dec (c : Nat) : Option Bool := if c = 117 then some false else if c = 100 then some true else none
theorem txt_len (S : List Bool) : (txt S).length = S.length := by unfold txt Str.length; simp
theorem txt_size (S : List Bool) : (txt S).cps.size = S.length := txt_len S
theorem dec_cd (b : Bool) : dec (cd b) = some b := by cases b <;> rfl
theorem ltr_u : Str.ofString "u" = ltr false := by decide +kernel
theorem ltr_d : Str.ofString "d" = ltr true := by decide +kernel
theorem glue_txt : ∀ (S : List Bool) (a : Array Nat), (S.map ltr).foldl (fun acc p => acc ++ (Str.ofString "").cps ++ p.cps) a = a ++ (S.map cd).toArray
  | [], a => by simp
  | b :: r, a => by
    rw [List.map_cons, List.foldl_cons, glue_txt r]
    have e : (Str.ofString "").cps = #[] := by decide +kernel
    rw [e]
    simp [ltr]
theorem join_txt (S : List Bool) : Txt.join (Str.ofString "") (S.map ltr) = txt S := by
  show Builtin.Str.glued _ _ = _
  unfold Builtin.Str.glued
  cases S with
  | nil => rfl
  | cons b r =>
    rw [List.map_cons, List.drop_succ_cons, List.drop_zero, glue_txt]
    unfold txt
    simp [ltr]
theorem sum_ltr : ∀ S : List Bool, ((S.map ltr).map (·.length)).sum = S.length
  | [] => rfl
  | b :: r => by simp only [List.map_cons, List.sum_cons, sum_ltr r, List.length_cons]; show 1 + _ = _; omega
theorem join_fit (S : List Bool) (h : S.length ≤ 1000) : ((S.map ltr).map (·.length)).sum + (S.map ltr).length * (Str.ofString "").length ≤ 16777216 := by
  rw [sum_ltr]
  have e : (Str.ofString "").length = 0 := by decide +kernel
  rw [e]; omega
theorem ltr_map (S : List Bool) : S.map (fun b => V.str (ltr b)) = (S.map ltr).map V.str := by simp
theorem join_use {S : List Bool} {H : Hp} {l : Addr} {Q : VK} (h : S.length ≤ 1000) (e : H l = some (.lst (S.map fun b => V.str (ltr b)))) (k : Q (.str (txt S)) H) : joinU (.str (Str.ofString "")) [.ref l] H Q := by
  unfold joinU
  simp only [e]
  exact ⟨S.map ltr, ltr_map S, join_fit S h, by rw [join_txt]; exact k⟩
def decs : List Nat → Option (List Bool)
  | [] => some []
  | c :: r => match dec c, decs r with | some b, some q => some (b :: q) | _, _ => none
theorem decs_cd : ∀ S : List Bool, decs (S.map cd) = some S
  | [] => rfl
  | b :: r => by simp [decs, dec_cd, decs_cd r]
theorem decs_take {l : List Nat} {S : List Bool} {i c : Nat} (h : decs (l.take i) = some S) (hc : l[i]? = some c) : decs (l.take (i + 1)) = (dec c).map fun b => S ++ [b] := by
  have e : l.take (i + 1) = l.take i ++ [c] := by rw [List.take_succ, hc]; rfl
  rw [e]
  clear e
  generalize l.take i = x at *
  induction x generalizing S with
  | nil => cases h; simp only [List.nil_append, decs]; cases dec c <;> rfl
  | cons a r ih =>
    simp only [List.cons_append, decs] at h ⊢
    cases hd : dec a with
    | none => rw [hd] at h; cases h
    | some b =>
      rw [hd] at h
      cases hr : decs r with
      | none => rw [hr] at h; cases h
      | some q =>
        rw [hr] at h
        cases h
        rw [ih hr]
        cases dec c <;> rfl
theorem decs_none {l : List Nat} {S : List Bool} {i c : Nat} (hc : l[i]? = some c) (hd : dec c = none) : decs l = none := by
  induction l generalizing i with
  | nil => simp at hc
  | cons a r ih =>
    cases i with
    | zero =>
      simp at hc; subst hc
      simp only [decs, hd]
    | succ i =>
      have := ih (by simpa using hc)
      simp only [decs, this]
      cases dec a <;> rfl
def kSides : List (Key × V) := [(Sum.inr (Str.ofString "u"), V.str (Str.ofString "up")), (Sum.inr (Str.ofString "d"), V.str (Str.ofString "down"))]
theorem str1_ne {a b : Nat} (h : a ≠ b) : (⟨#[a]⟩ : Str) ≠ ⟨#[b]⟩ := fun e => h (by injection e with e; simpa using e)
theorem val_sides (c : Nat) : valV kSides (Sum.inr ⟨#[c]⟩) = (dec c).map sid := by
  unfold kSides valV
  rw [ltr_u, ltr_d]
  unfold dec ltr cd
  by_cases h1 : c = 117
  · subst h1; decide +kernel
  · by_cases h2 : c = 100
    · subst h2; decide +kernel
    · rw [if_neg h1, if_neg h2]
      have e1 : ¬ (Sum.inr ⟨#[117]⟩ : Key) = Sum.inr ⟨#[c]⟩ := fun e => str1_ne (Ne.symm h1) (Sum.inr.inj e)
      have e2 : ¬ (Sum.inr ⟨#[100]⟩ : Key) = Sum.inr ⟨#[c]⟩ := fun e => str1_ne (Ne.symm h2) (Sum.inr.inj e)
      simp [e1, e2]
inductive PvR (z : Str) (l : Addr) (H0 : Hp) (i : Nat) (σ : St) (H' : Hp) : Prop
  | mk (S : List Bool) (v2 : Option V) (z0 : σ = [some (.str z), some (.ref l), v2]) (z1 : decs (z.cps.toList.take i) = some S) (z2 : Same H0 H') (z3 : H0 l = none) (z4 : H' l = some (.lst (sidV S))) : PvR z l H0 i σ H'
theorem same_upd {H H' : Hp} {l : Addr} {o : HO} (n : H l = none) (s : Same H H') : Same H (upd H' l o) := fun b u e => by
  rw [upd_ne (ne_of_none e n)]; exact s b u e
theorem decs_len : ∀ {l : List Nat} {S : List Bool}, decs l = some S → S.length = l.length
  | [], _, h => by cases h; rfl
  | c :: r, S, h => by
    simp only [decs] at h
    cases hc : dec c with
    | none => rw [hc] at h; cases h
    | some b =>
      rw [hc] at h
      cases hr : decs r with
      | none => rw [hr] at h; cases h
      | some q => rw [hr] at h; cases h; simp [decs_len hr]
section
variable {P : Program} {w : World} {K : PySem.W.Frag} {mg : Str → Option Value} {base : Heap} {t : Adr}
inductive sp_read (t : Adr) (vs : List V) (H : Hp) (Q : VK) (E : XK) : Prop
  | mk (z : Str) (z0 : vs = [.str z]) (z1 : z.length ≤ 1000) (z2 : (if 40 < z.length then E (.ref t.c_BadText) none H else match decs z.cps.toList with | none => ∀ H', Same H H' → E (.ref t.c_BadText) none H' | some S => ∀ l H', Same H H' → H l = none → H' l = some (.lst (sidV S)) → Q (.ref l) H')) : sp_read t vs H Q E
theorem sc_read_order : FnScope ["text", "order", "letter"] ["text"] (defScope s_read_order) := ⟨rfl, rfl, rfl, by decide +kernel, rfl, by decide +kernel, by decide +kernel⟩
set_option maxHeartbeats 4000000 in
theorem ok_read_order (T : Txt w K mg t) : FnOk P w K mg base (CXe P w) 1 t.f_read_order t.d_read_order ["text"] (sp_read t) := by
  refine okX T.F_read_order sc_read_order (fun vs H Q E h => ?_) (fun cdv A outer s H vs Q E hr h => ?_)
  · obtain ⟨z, rfl, _⟩ := h; rfl
  · obtain ⟨z, rfl, hz, k⟩ := h
    refine ⟨_, (pss_cons (ps_if (tu_cmp ou_gt (pe_callB cu_len rfl T.z_len PySem.boot_len (pa_cons (pu 0) pa_nil)) (pe_glob (v := .int 40) rfl T.g_MOST_LETTERS ⟨_, rfl⟩) (nomark _)) (pss_one (ps_raise raiseB rfl T.x_BadText PySem.F.excBase_ValueError rfl T.g_BadText (pa_cons pe_str pa_nil))) pss_nil)
 (pss_cons (ps_set (i := 1) sc_read_order.nd rfl (Or.inl rfl) (pe_lst pa_nil))
 (pss_cons (ps_for ownB rfl (pi_str (pu 0)) (pg_name (i := 2) sc_read_order.nd rfl (Or.inl rfl)) (pss_cons (ps_if (tu_pc (cu_gnotin T.D_SIDES rfl T.g_SIDES (pu 2))) (pss_one (ps_raise raiseB rfl T.x_BadText PySem.F.excBase_ValueError rfl T.g_BadText (pa_cons pe_str pa_nil))) pss_nil)
 (pss_one (ps_expr (eu_lm PySem.F.slot_list_append PySem.F.type_list_append mu_append (pu 1) (pa_cons (eu_gget T.D_SIDES rfl T.g_SIDES (pu 2)) pa_nil))))))
 (pss_one (ps_ret (pu 1)))))), ?_⟩
    rw [tSeq]
    generalize hR1 : tSeq _ _ = R1
    try simp_arith [true_and]
    refine ⟨Nat.le_trans hz (by decide), ?_⟩
    by_cases c : 40 < z.length
    · rw [if_pos (decide_eq_true (by omega))]
      rw [if_pos c] at k
      try simp_arith [tRaise]
      exact ⟨by decide, k⟩
    · rw [if_neg (by simp; omega)]
      rw [if_neg c] at k
      subst hR1
      rw [tSeq]
      generalize hR2 : tSeq _ _ = R2
      try simp_arith [true_and]
      refine ⟨by decide, fun l n_l => ?_⟩
      subst hR2
      rw [tSeq]
      refine for_str z (PvR z l H) (fun Q => rfl) ⟨[], none, rfl, rfl, same_new n_l, n_l, upd_same⟩ ?_ ?_
      · rintro i c σ H' hc ⟨S, v2, rfl, hd, s', _, el⟩
        have hc' : z.cps.toList[i]? = some c := by simpa using hc
        have tk := decs_take hd hc'
        have vs := val_sides c
        unfold kSides at vs
        try simp_arith [true_and]
        rw [tSeq]
        generalize hR3 : tDrop _ = R3
        try simp_arith [vs]
        cases hdc : dec c with
        | none =>
          rw [decs_none (S := []) hc' hdc] at k
          try simp_arith [Option.map_none, Option.isSome_none, Bool.not_false, tRaise]
          exact ⟨by decide, k _ s'⟩
        | some b =>
          try simp_arith [Option.map_some, Option.isSome_some, Bool.not_true]
          subst hR3
          try simp_arith [vs, hdc, el, Option.map_some]
          refine ⟨?_, S ++ [b], _, rfl, by rw [tk, hdc]; rfl, same_upd n_l s', n_l, by rw [upd_same, app_sidV']⟩
          have ln := decs_len hd
          rw [len_sidV]
          exact Nat.lt_of_le_of_lt (by rw [ln, List.length_take]; have : z.cps.toList.length = z.length := by simp [Str.length]
                                       omega : S.length ≤ 1000) (by decide)
      · rintro σ H' ⟨S, v2, rfl, hd, s', _, el⟩
        try simp_arith [true_and]
        have e : z.cps.toList.take z.cps.size = z.cps.toList := List.take_of_length_le (by simp)
        rw [e] at hd
        rw [hd] at k
        exact k l _ s' n_l el
end
end KW

set_option Elab.async false
set_option linter.all false
set_option maxRecDepth 100000
namespace KW
open PySem L2 LX Lf
seal L2.PE L2.PT L2.PW L2.PS L2.PSs L2.PA L2.PI L2.PG L2.PC LX.PH LX.PIf L2.PPs L2.PO L2.OpR L2.UnR L2.CallR L2.IxR L2.MtR L2.MtM
local macro_rules | `(tactic| simp_arith [$xs,*]) => `(tactic| simp only [tRet, tRetN, tIfS, tAsg, gName, tDrop, tNext, vU, tC, tOp, tUn, rIU, rIC, rPowU, neg_i, rIsNU, rNotNU, tTestU, bU, tAnd, tOr, tNot, tAndU, tOrU, tNotU, L2.tIf, tFldU, fldU, sFldU, setU, sFldAugU, iaddU, tMethU, recU, tCallU, tMakeU, tCons, tNil, tCB, allU, isiU, minU, tDGetU, dgU, keyOf, sDPutU, dpU, sLPutU, lpU, tTup, tLst, tComp, tDNewK, fvals, L2.start, cx_body, cx_blk, cx_try, cx_mark, List.map_cons, List.map_nil, List.length_cons, List.length_nil, List.cons_append, List.nil_append, List.append_nil, List.getElem?_cons_zero, List.getElem?_cons_succ, List.replicate, List.set_cons_zero, List.set_cons_succ, Nat.sub_self, Nat.add_one_sub_one, Nat.sub_zero, true_and, and_true, scal, if_true, reduceIte, Bool.false_eq_true, Option.join_some, Option.join, upd_same, give_p, give_n, give_0, add_eq, addO, mul_eq, mulO, len_eq, lenO, list_eq, listO, int_eq, intO, oneR, ix_eq, ixO, eq_eq, ne_eq', gEq_t, gEq_f, gNe_t, gNe_f, Option.bind_some, id_eq, tLM, isLst, appU, pop0U, idxU, idxO, cntU, inU, inO, listDU, sortU, tDiU, diU, tDPopU, isDK, dpopU, tChU, isxU, tLRng1, tLRng2, tLRev, tJoin, isStrV, mulSU, ixSU, tGGet, tGIn, clrU, tLM0, tAug, ipI, $xs,*])
def isDn (v : V) : Bool := decide (v = sid true)
theorem isDn_sid (b : Bool) : isDn (sid b) = b := by cases b <;> decide
theorem map_ltr (S : List Bool) : ((sidV S).filter fun _ => true).map (fun v => V.str (ltr (isDn v))) = S.map fun b => V.str (ltr b) := by
  rw [List.filter_eq_self.mpr (fun _ _ => rfl)]
  unfold sidV
  rw [List.map_map]
  apply List.map_congr_left
  intro b _
  show V.str (ltr (isDn (sid b))) = _
  rw [isDn_sid]
theorem mem_sid {S : List Bool} {x : V} (h : x ∈ sidV S) : ∃ b, x = sid b := by
  obtain ⟨b, _, e⟩ := List.mem_map.mp h
  exact ⟨b, e.symm⟩
theorem first_ltr (b : Bool) : atI (if b = true then Str.ofString "down" else Str.ofString "up").cps.toList 0 = some (cd b) := by cases b <;> decide +kernel
theorem side_len (b : Bool) : (if b = true then Str.ofString "down" else Str.ofString "up").length ≤ sizeLine := by cases b <;> decide +kernel
def odds : List Nat := (Str.ofString " \t\nUDxn01-_.,;pw|o").cps.toList
theorem odds_at (i : Int) (h0 : 0 ≤ i) (h1 : i < 18) : ∃ c, atI odds i = some c ∧ dec c = none := by
  have h2 : i.toNat < 18 := by omega
  have e : i = (i.toNat : Int) := by omega
  rw [e]
  generalize i.toNat = n at h2
  have : ∀ n : Fin 18, ∃ c, atI odds (n.1 : Int) = some c ∧ dec c = none := by
    have : ∀ n : Fin 18, (match atI odds (n.1 : Int) with | some c => decide (dec c = none) | none => false) = true := by decide +kernel
    intro n
    have := this n
    cases q : atI odds (n.1 : Int) with
    | none => rw [q] at this; cases this
    | some c => rw [q] at this; exact ⟨c, rfl, of_decide_eq_true this⟩
  exact this ⟨n, h2⟩
theorem cut_lo (z : Str) (n : Nat) (h : n ≤ z.length) : cutS z none (some (n : Int)) = ⟨(z.cps.toList.take n).toArray⟩ := by
  unfold cutS
  rw [HT.sIx_none, HT.sIx_nat, Nat.min_eq_left h, List.drop_zero, Nat.sub_zero]
theorem cut_hi (z : Str) (n : Nat) (h : n ≤ z.length) : cutS z (some (n : Int)) none = ⟨(z.cps.toList.drop n).toArray⟩ := by
  unfold cutS
  rw [HT.sIx_none, HT.sIx_nat, Nat.min_eq_left h, List.take_of_length_le]
  rw [List.length_drop]
  exact Nat.le_of_eq (by simp [Str.length])
theorem odd_none (z : Str) (n c : Nat) (h : n ≤ z.length) (hc : dec c = none) : decs ((⟨(z.cps.toList.take n).toArray⟩ : Str) ++ ⟨#[c]⟩ ++ ⟨(z.cps.toList.drop n).toArray⟩ : Str).cps.toList = none := by
  have l : (z.cps.toList.take n).length = n := by rw [List.length_take]; simp [Str.length] at h ⊢; exact Nat.min_eq_left h
  refine decs_none (S := []) (i := n) (c := c) ?_ hc
  show ((z.cps.toList.take n).toArray ++ #[c] ++ (z.cps.toList.drop n).toArray).toList[n]? = some c
  simp only [Array.toList_append, List.append_assoc]
  rw [List.getElem?_append_right (by rw [l]; exact Nat.le_refl _), l, Nat.sub_self]
  rfl
theorem odd_len (z : Str) (n c : Nat) (h : z.length ≤ 100) : ((⟨(z.cps.toList.take n).toArray⟩ : Str) ++ ⟨#[c]⟩ ++ ⟨(z.cps.toList.drop n).toArray⟩ : Str).length ≤ 1000 := by
  show ((z.cps.toList.take n).toArray ++ #[c] ++ (z.cps.toList.drop n).toArray).size ≤ 1000
  have : z.cps.size = z.length := rfl
  simp only [Array.size_append, List.size_toArray, List.length_take, List.length_drop, Array.length_toList, this]
  simp
  omega
def base3 (r : Int) : Str := if r = 0 then Str.ofString "u" else if r = 1 then Str.ofString "d" else Str.ofString "ud"
def long3 (r : Int) : Str := ⟨(List.replicate 99 (base3 r).cps).foldl (· ++ ·) #[]⟩
theorem at_base (x : Int) : atI [V.str (Str.ofString "u"), V.str (Str.ofString "d"), V.str (Str.ofString "ud")] (x % 3) = some (.str (base3 (x % 3))) := by
  have : x % 3 = 0 ∨ x % 3 = 1 ∨ x % 3 = 2 := by omega
  rcases this with h | h | h <;> rw [h] <;> rfl
theorem base_len (x : Int) : 0 < (base3 (x % 3)).length ∧ (base3 (x % 3)).length ≤ 2 := by
  have : x % 3 = 0 ∨ x % 3 = 1 ∨ x % 3 = 2 := by omega
  rcases this with h | h | h <;> rw [h] <;> decide +kernel
theorem long_len (x : Int) : (long3 (x % 3)).length = 99 * (base3 (x % 3)).length := by
  show ((List.replicate 99 (base3 (x % 3)).cps).foldl (fun x1 x2 => x1 ++ x2) #[]).size = _
  rw [rep_size]
  show 0 + _ = _
  rw [Nat.zero_add, Nat.mul_comm]; rfl
theorem long_read (x : Int) : ∃ S, decs ((long3 (x % 3)).cps.toList.take 40) = some S ∧ S.length = 40 := by
  have : x % 3 = 0 ∨ x % 3 = 1 ∨ x % 3 = 2 := by omega
  rcases this with h | h | h <;> rw [h]
  · exact ⟨List.replicate 40 false, by decide +kernel, by simp⟩
  · exact ⟨List.replicate 40 true, by decide +kernel, by simp⟩
  · exact ⟨(List.replicate 20 [false, true]).flatten, by decide +kernel, by decide⟩
theorem len_mk (l : List Nat) : (⟨l.toArray⟩ : Str).length = l.length := by simp [Str.length]
theorem small {m : Nat} (h : m ≤ 1000) : m ≤ sizeLine := Nat.le_trans h (by decide)
section
variable {P : Program} {w : World} {K : PySem.W.Frag} {mg : Str → Option Value} {base : Heap} {t : Adr}
inductive sp_refused  (vs : List V) (H : Hp) (Q : VK) (E_ : XK) : Prop
  | mk (z : Str) (z0 : vs = [.str z]) (z1 : z.length ≤ 1000) (z2 : (40 < z.length ∨ decs z.cps.toList = none)) (z3 : ∀ H', Same H H' → Q (.bl true) H') : sp_refused  vs H Q E_
theorem sc_l_refused : FnScope ["text", "bad", "e"] ["text"] (defScope s_l_refused) := ⟨rfl, rfl, rfl, by decide +kernel, rfl, by decide +kernel, by decide +kernel⟩
set_option maxHeartbeats 4000000 in
theorem ok_l_refused (T : Txt w K mg t) : FnOk P w K mg base (CXe P w) 3 t.f_l_refused t.d_l_refused ["text"] (sp_refused) := by
  have G_read_order := ok_read_order (P := P) (w := w) (base := base) T
  refine okX T.F_l_refused sc_l_refused (fun vs H Q E h => ?_) (fun cdv A outer s H vs Q E hr h => ?_)
  · obtain ⟨z, rfl, _⟩ := h; rfl
  · obtain ⟨z, rfl, hz, hb, k⟩ := h
    refine ⟨_, (pss_cons (ps_set (i := 1) sc_l_refused.nd rfl (Or.inl rfl) pe_bl)
 (pss_cons (ps_try own_body (fun pins Ex => (pss_one (ps_expr (eu_call G_read_order (hr.mono (by decide)) rfl T.g_read_order T.F_read_order.kp T.b_read_order (passTry own_body) (pa_cons (pu 0) pa_nil))))) (ph_as (i := 2) own_body sc_l_refused.nd rfl rfl rfl T.g_BadText (fun ea oe xe => (pss_one (ps_set (i := 1) sc_l_refused.nd rfl (Or.inl rfl) (eu_and (pe_callB (cu_isx (K := K) rfl) rfl T.z_isinstance PyProof.Rows.boot_isinstance (pa_cons (pu 2) (pa_cons (pe_glob (v := .ref t.c_LockError) rfl T.g_LockError rfl) pa_nil))) (eu_and (pe_callB (cu_isx (K := K) rfl) rfl T.z_isinstance PyProof.Rows.boot_isinstance (pa_cons (pu 2) (pa_cons (pe_bltn (v := .ty "ValueError") rfl T.z_ValueError PyProof.Rows.Boot.«ValueError» rfl) pa_nil))) (pe_one (eu_not (pe_callB (cu_isx (K := K) rfl) rfl T.z_isinstance PyProof.Rows.boot_isinstance (pa_cons (pu 2) (pa_cons (pe_glob (v := .ref t.c_BadFlight) rfl T.g_BadFlight rfl) pa_nil)))))))))) ph_nil))
 (pss_one (ps_ret (pu 1))))), ?_⟩
    simp only [tSeq]
    try simp_arith [true_and]
    simp only [tSeq]
    try simp_arith [tTry, hAs]
    refine ⟨z, rfl, hz, ?_⟩
    by_cases c : 40 < z.length
    · rw [if_pos c]
      refine ⟨true, T.q_BT_BT, ?_⟩
      rw [if_pos rfl]
      intro ea oe ho
      try simp_arith [okC, cV]
      refine ⟨_, true, ho, T.w_BadText, T.q_i_BT_LE, ?_⟩
      rw [if_pos rfl]
      refine ⟨_, true, ho, T.w_BadText, T.q_i_BT_VE, ?_⟩
      rw [if_pos rfl]
      exact ⟨_, false, ho, T.w_BadText, T.q_i_BT_BF, k _ (Same.refl _)⟩
    · rw [if_neg c, hb.resolve_left c]
      intro H1 s1
      refine ⟨true, T.q_BT_BT, ?_⟩
      rw [if_pos rfl]
      intro ea oe ho
      try simp_arith [okC, cV]
      refine ⟨_, true, ho, T.w_BadText, T.q_i_BT_LE, ?_⟩
      rw [if_pos rfl]
      refine ⟨_, true, ho, T.w_BadText, T.q_i_BT_VE, ?_⟩
      rw [if_pos rfl]
      exact ⟨_, false, ho, T.w_BadText, T.q_i_BT_BF, k _ s1⟩
inductive sp_law (K : PySem.W.Frag) (vs : List V) (H : Hp) (Q : VK) (E_ : XK) : Prop
  | mk (a : Addr) (ns : List Int) (z0 : vs = [.ref a]) (z1 : SqL K H a (ns.map V.int)) (z2 : ns.length ≤ 63) (z3 : ∀ H', Q (.bl true) H') : sp_law K vs H Q E_
theorem sc_law : FnScope ["script", "order", "text", "odd", "at", "long"] ["script"] (defScope s_law) := ⟨rfl, rfl, rfl, by decide +kernel, rfl, by decide +kernel, by decide +kernel⟩
set_option maxHeartbeats 4000000 in
theorem ok_law (T : Txt w K mg t) : FnOk P w K mg base (CXe P w) 5 t.f_law t.d_law ["script"] (sp_law K) := by
  have G_l_cell_at := ok_l_cell_at (P := P) (w := w) (base := base) T
  have G_l_order := ok_l_order (P := P) (w := w) (base := base) T
  have G_l_refused := ok_l_refused (P := P) (w := w) (base := base) T
  have G_read_order := ok_read_order (P := P) (w := w) (base := base) T
  refine okX T.F_law sc_law (fun vs H Q E h => ?_) (fun cdv A outer s H vs Q E hr h => ?_)
  · obtain ⟨a, ns, rfl, _⟩ := h; rfl
  · obtain ⟨a, ns, rfl, hS, hz, k⟩ := h
    refine ⟨_, (pss_cons (ps_set (i := 1) sc_law.nd rfl (Or.inl rfl) (eu_call G_l_order (hr.mono (by decide)) rfl T.g_l_order T.F_l_order.kp T.b_l_order passB (pa_cons (pu 0) (pa_cons pe_int (pa_cons (pe_op ou_mod (eu_call G_l_cell_at (hr.mono (by decide)) rfl T.g_l_cell_at T.F_l_cell_at.kp T.b_l_cell_at passB (pa_cons (pu 0) (pa_cons pe_int pa_nil))) pe_int) pa_nil)))))
 (pss_cons (ps_set (i := 2) sc_law.nd rfl (Or.inl rfl) (eu_join pe_str (pa_cons (pe_comp (fv := []) (ixs := []) rfl (by decide +kernel) rfl rfl (pi_listK (K := K) rfl (pu 1)) (fun cl C s H fp => pif_nil) (fun cl C s H fp => (eu_ix xu_str (pu 0) pe_int))) pa_nil)))
 (pss_cons (ps_set (i := 3) sc_law.nd rfl (Or.inl rfl) (eu_ix xu_str pe_str (pe_op ou_mod (eu_call G_l_cell_at (hr.mono (by decide)) rfl T.g_l_cell_at T.F_l_cell_at.kp T.b_l_cell_at passB (pa_cons (pu 0) (pa_cons pe_int pa_nil))) pe_int)))
 (pss_cons (ps_set (i := 4) sc_law.nd rfl (Or.inl rfl) (pe_op ou_mod (eu_call G_l_cell_at (hr.mono (by decide)) rfl T.g_l_cell_at T.F_l_cell_at.kp T.b_l_cell_at passB (pa_cons (pu 0) (pa_cons pe_int pa_nil))) (pe_op ou_add (pe_callB cu_len rfl T.z_len PySem.boot_len (pa_cons (pu 2) pa_nil)) pe_int)))
 (pss_cons (ps_if (PW.pt (pw_or (pt_not (tu_val (eu_call G_l_refused (hr.mono (by decide)) rfl T.g_l_refused T.F_l_refused.kp T.b_l_refused passB (pa_cons (pe_op ou_add (pe_op ou_add (pe_slice sl_str (pu 2) po_none (po_some (pu 4))) (pu 3)) (pe_slice sl_str (pu 2) (po_some (pu 4)) po_none)) pa_nil)))) (pw_or1 (tu_cmp (ou_ne hr.units) (eu_call G_read_order (hr.mono (by decide)) rfl T.g_read_order T.F_read_order.kp T.b_read_order passB (pa_cons (pu 2) pa_nil)) (pu 1) (nomark _))))) (pss_one (ps_ret pe_bl)) pss_nil)
 (pss_cons (ps_set (i := 5) sc_law.nd rfl (Or.inl rfl) (pe_op ou_mulS (eu_ix xu_seq (pe_lst (pa_cons pe_str (pa_cons pe_str (pa_cons pe_str pa_nil)))) (pe_op ou_mod (eu_call G_l_cell_at (hr.mono (by decide)) rfl T.g_l_cell_at T.F_l_cell_at.kp T.b_l_cell_at passB (pa_cons (pu 0) (pa_cons pe_int pa_nil))) pe_int)) pe_int))
 (pss_cons (ps_if (pt_not (tu_val (eu_call G_l_refused (hr.mono (by decide)) rfl T.g_l_refused T.F_l_refused.kp T.b_l_refused passB (pa_cons (pe_slice sl_str (pu 5) po_none (po_some (pe_op ou_add pe_int (pe_op ou_mod (eu_call G_l_cell_at (hr.mono (by decide)) rfl T.g_l_cell_at T.F_l_cell_at.kp T.b_l_cell_at passB (pa_cons (pu 0) (pa_cons pe_int pa_nil))) pe_int)))) pa_nil)))) (pss_one (ps_ret pe_bl)) pss_nil)
 (pss_one (ps_ret (pe_cmpR (ou_eq hr.units) (pe_callB cu_len rfl T.z_len PySem.boot_len (pa_cons (eu_call G_read_order (hr.mono (by decide)) rfl T.g_read_order T.F_read_order.kp T.b_read_order passB (pa_cons (pe_slice sl_str (pu 5) po_none (po_some pe_int)) pa_nil)) pa_nil)) pe_int (nomark _))))))))))), ?_⟩
    rw [tSeq]
    generalize hR1 : tSeq _ _ = R1
    try simp_arith [true_and]
    refine ⟨a, ns, 0, rfl, hS, by decide, ?_⟩
    try simp_arith [true_and]
    refine ⟨by decide, ?_⟩
    refine ⟨a, ns, 1, cellOf ns 0 % 40, rfl, hS, by decide, by omega, by omega, fun o H1 s1 n_o eo => ?_⟩
    have ln := ord_len ns 1 (cellOf ns 0 % 40).toNat
    generalize ordOf ns 1 (cellOf ns 0 % 40).toNat = S at *
    have hl : S.length ≤ 39 := by omega
    replace hS := s1.seq hS
    subst hR1
    rw [tSeq]
    generalize hR2 : tSeq _ _ = R2
    try simp_arith [iList]
    refine ⟨o, rfl, ⟨_, .inl (.inl eo)⟩, comp_list (fun _ => true) (fun v => V.str (ltr (isDn v))) (.inl (.inl eo)) ?_ ?_ ?_⟩
    · rw [len_sidV]; exact Nat.le_trans hl (by decide)
    · intro x hx H3 s3 Rt Rf hRt hRf
      obtain ⟨b, rfl⟩ := mem_sid hx
      rw [isDn_sid] at hRt
      try simp_arith [tAll, sid_eq, first_ltr]
      exact ⟨side_len b, hRt rfl _ s3⟩
    · intro H2 s2 D n_D
      rw [map_ltr]
      have s3 := s2.trans (same_new (o := HO.lst (S.map fun b => V.str (ltr b))) n_D)
      refine join_use (by omega) upd_same ?_
      replace eo := s3 _ _ eo
      replace hS := s3.seq hS
      generalize upd H2 D (HO.lst (S.map fun b => V.str (ltr b))) = H3 at *
      clear s2 s3 n_D s1 n_o
      subst hR2
      rw [tSeq]
      generalize hR3 : tSeq _ _ = R3
      try simp_arith [true_and]
      refine ⟨a, ns, 42, rfl, hS, by decide, ?_⟩
      try simp_arith [true_and]
      refine ⟨by decide, ?_⟩
      obtain ⟨c, hc, hn⟩ := odds_at (cellOf ns 42 % 18) (by omega) (by omega)
      unfold odds at hc
      try simp_arith [hc]
      refine ⟨by decide +kernel, ?_⟩
      subst hR3
      rw [tSeq]
      generalize hR4 : tSeq _ _ = R4
      try simp_arith [true_and]
      refine ⟨a, ns, 41, rfl, hS, by decide, ?_⟩
      try simp_arith [txt_len]
      refine ⟨Nat.le_trans hl (by decide), by omega, ?_⟩
      have at0 : 0 ≤ cellOf ns 41 % ((S.length : Int) + 1) := Int.emod_nonneg _ (by omega)
      have at1 : cellOf ns 41 % ((S.length : Int) + 1) < (S.length : Int) + 1 := Int.emod_lt_of_pos _ (by omega)
      generalize cellOf ns 41 % ((S.length : Int) + 1) = ai at *
      obtain ⟨n, rfl⟩ := Int.eq_ofNat_of_zero_le at0
      have hn2 : n ≤ (txt S).length := by rw [txt_len]; omega
      subst hR4
      rw [tSeq]
      generalize hR5 : tSeq _ _ = R5
      try simp_arith [tSl, tPart, tNoPart, rSlS, txt_len]
      have zl : (txt S).cps.toList.length = S.length := by rw [Array.length_toList]; exact txt_size S
      refine ⟨(n : Int), rfl, small (by omega), ?_, (n : Int), rfl, small (by omega), ?_, ?_⟩
      · rw [cut_lo _ _ hn2, len_mk, List.length_take, zl]
        exact small (by show _ + 1 ≤ _; omega)
      · rw [cut_lo _ _ hn2, cut_hi _ _ hn2, Str.length_append, len_mk, len_mk, len_mk, List.length_take, List.length_drop, zl]
        exact small (by show _ + 1 + _ ≤ _; omega)
      · rw [cut_lo _ _ hn2, cut_hi _ _ hn2]
        refine ⟨_, rfl, odd_len _ _ _ (by rw [txt_len]; omega), .inr (odd_none _ _ _ hn2 hn), fun H4 s4 => ?_⟩
        try simp_arith [Bool.not_true]
        refine ⟨txt S, rfl, by rw [txt_len]; omega, ?_⟩
        rw [if_neg (by rw [txt_len]; omega), show (txt S).cps.toList = S.map cd from rfl, decs_cd]
        intro f H5 s5 n_f ef
        refine ne_sides ef (s5 _ _ (s4 _ _ eo)) ?_
        try simp_arith [decide_true, Bool.not_true]
        replace hS := (s4.trans s5).seq hS
        clear s4 s5 n_f ef eo
        subst hR5
        rw [tSeq]
        generalize hR6 : tSeq _ _ = R6
        try simp_arith [true_and]
        refine ⟨by decide, fun q n_q => ?_⟩
        replace hS := (same_new (o := HO.lst [V.str (Str.ofString "u"), V.str (Str.ofString "d"), V.str (Str.ofString "ud")]) n_q).seq hS
        refine ⟨a, ns, 43, rfl, hS, by decide, ?_⟩
        try simp_arith [true_and]
        refine ⟨by decide, ?_⟩
        rw [at_base]
        try simp_arith [true_and]
        have bl := base_len (cellOf ns 43)
        refine ⟨⟨by decide, bl.1, by show _ * 99 ≤ _; omega, by decide⟩, ?_⟩
        have ll := long_len (cellOf ns 43)
        obtain ⟨S2, hd2, hl2⟩ := long_read (cellOf ns 43)
        show R6 _ [some (V.ref a), some (V.ref o), some (V.str (txt S)), some (V.str ⟨#[c]⟩), some (V.int n), some (V.str (long3 (cellOf ns 43 % 3)))] _
        generalize long3 (cellOf ns 43 % 3) = lg at *
        generalize upd H5 q (HO.lst [V.str (Str.ofString "u"), V.str (Str.ofString "d"), V.str (Str.ofString "ud")]) = H6 at *
        clear n_q
        subst hR6
        rw [tSeq]
        generalize hR7 : tRet (tC _) = R7
        try simp_arith [tSl, tPart, tNoPart, rSlS]
        refine ⟨a, ns, 44, rfl, hS, by decide, ?_⟩
        try simp_arith [true_and]
        refine ⟨by decide, _, rfl, small (by omega), ?_⟩
        have m0 : 0 ≤ 41 + cellOf ns 44 % 50 := by omega
        have m1 : 41 ≤ 41 + cellOf ns 44 % 50 := by omega
        have m2 : 41 + cellOf ns 44 % 50 ≤ 90 := by omega
        generalize 41 + cellOf ns 44 % 50 = mi at *
        obtain ⟨m, rfl⟩ := Int.eq_ofNat_of_zero_le m0
        have lt : lg.cps.toList.length = lg.length := by rw [Array.length_toList]; rfl
        rw [cut_lo _ _ (by omega)]
        have lm : (⟨(lg.cps.toList.take m).toArray⟩ : Str).length = m := by rw [len_mk, List.length_take, lt]; omega
        refine ⟨_, rfl, by rw [lm]; omega, .inl (by rw [lm]; omega), fun H7 s7 => ?_⟩
        try simp_arith [Bool.not_true, tSl, tPart, tNoPart, rSlS]
        refine ⟨40, rfl, small (by omega), ?_⟩
        have e40 : cutS lg none (some 40) = ⟨(lg.cps.toList.take 40).toArray⟩ := cut_lo lg 40 (by omega)
        rw [e40]
        have l4 : (⟨(lg.cps.toList.take 40).toArray⟩ : Str).length = 40 := by rw [len_mk, List.length_take, lt]; omega
        refine ⟨_, rfl, by rw [l4]; omega, ?_⟩
        rw [if_neg (by rw [l4]; omega), show (⟨(lg.cps.toList.take 40).toArray⟩ : Str).cps.toList = lg.cps.toList.take 40 from rfl, hd2]
        intro f H8 s8 nf ef
        try simp_arith [ef, len_sidV, hl2]
        exact k _
end
end KW

set_option Elab.async false
set_option linter.all false
set_option maxRecDepth 100000
namespace KW
open PySem L2 LX Lf
theorem all_mk {l : PySem.W.OpenLaw} {w : World} {K : PySem.W.Frag} {h : Heap} {mg : Str → Option Value} {fa : Addr} {c_LockError c_BadFlight c_BadText : Addr} {d_SIDES : Addr} {e_SIDES : Nat} {h0_SIDES h1_SIDES : Int} {tk0_SIDES tv0_SIDES tk1_SIDES tv1_SIDES : Tok} {k_MOST_LETTERS : Tok} {f_read_order f_l_cell_at f_l_order f_l_refused f_law : Addr} {od_read_order an_read_order od_l_cell_at an_l_cell_at od_l_order an_l_order od_l_refused an_l_refused od_law an_law : Option Addr} {sl_read_order sl_l_cell_at sl_l_order sl_l_refused sl_law : Array (Option Value)} {oc_read_order kV_read_order dc_read_order pm_read_order cd_read_order ct_read_order oc_l_cell_at kV_l_cell_at dc_l_cell_at pm_l_cell_at cd_l_cell_at ct_l_cell_at oc_l_order kV_l_order dc_l_order pm_l_order cd_l_order ct_l_order oc_l_refused kV_l_refused dc_l_refused pm_l_refused cd_l_refused ct_l_refused oc_law kV_law dc_law pm_law cd_law ct_law : Value} (X : K.In h) (G : h.Ns mainGlobals mg) (hfa : mg "law" = some (.ref fa))
    (a_LockError : PySem.W.nsIn K mainGlobals "LockError" = some (some (.ref c_LockError)))
    (a_BadFlight : PySem.W.nsIn K mainGlobals "BadFlight" = some (some (.ref c_BadFlight)))
    (a_BadText : PySem.W.nsIn K mainGlobals "BadText" = some (some (.ref c_BadText)))
    (a_MOST_LETTERS : PySem.W.nsIn K mainGlobals "MOST_LETTERS" = some (some (.int 40 k_MOST_LETTERS)))
    (a_SIDES : PySem.W.nsIn K mainGlobals "SIDES" = some (some (.ref d_SIDES)))
    (ld_SIDES : K.lookup d_SIDES = some ⟨.type "dict", none, .dict #[⟨h0_SIDES, .str (Str.ofString "u") tk0_SIDES, .str (Str.ofString "up") tv0_SIDES⟩, ⟨h1_SIDES, .str (Str.ofString "d") tk1_SIDES, .str (Str.ofString "down") tv1_SIDES⟩] e_SIDES, #[]⟩)
    (sd_SIDES : (d_SIDES == sysModules) = false)
    (hh0_SIDES : h0_SIDES = hashStr w (Str.ofString "u"))
    (hh1_SIDES : h1_SIDES = hashStr w (Str.ofString "d"))
    (a_read_order : PySem.W.nsIn K mainGlobals "read_order" = some (some (.ref f_read_order)))
    (l_read_order : K.lookup f_read_order = some ⟨oc_read_order, od_read_order, .func (PySem.W.fnOf "read_order" "read_order" (defArgs s_read_order) (defBody s_read_order) (defScope s_read_order) .none kV_read_order dc_read_order pm_read_order an_read_order cd_read_order ct_read_order), sl_read_order⟩)
    (e_read_order : PySem.W.codeIn K cd_read_order "read_order" = true)
    (p_read_order : PySem.W.keepIn K (.ref f_read_order) = true)
    (a_l_cell_at : PySem.W.nsIn K mainGlobals "_law_cell_at" = some (some (.ref f_l_cell_at)))
    (l_l_cell_at : K.lookup f_l_cell_at = some ⟨oc_l_cell_at, od_l_cell_at, .func (PySem.W.fnOf "_law_cell_at" "_law_cell_at" (defArgs s_l_cell_at) (defBody s_l_cell_at) (defScope s_l_cell_at) .none kV_l_cell_at dc_l_cell_at pm_l_cell_at an_l_cell_at cd_l_cell_at ct_l_cell_at), sl_l_cell_at⟩)
    (e_l_cell_at : PySem.W.codeIn K cd_l_cell_at "_law_cell_at" = true)
    (p_l_cell_at : PySem.W.keepIn K (.ref f_l_cell_at) = true)
    (a_l_order : PySem.W.nsIn K mainGlobals "_law_order" = some (some (.ref f_l_order)))
    (l_l_order : K.lookup f_l_order = some ⟨oc_l_order, od_l_order, .func (PySem.W.fnOf "_law_order" "_law_order" (defArgs s_l_order) (defBody s_l_order) (defScope s_l_order) .none kV_l_order dc_l_order pm_l_order an_l_order cd_l_order ct_l_order), sl_l_order⟩)
    (e_l_order : PySem.W.codeIn K cd_l_order "_law_order" = true)
    (p_l_order : PySem.W.keepIn K (.ref f_l_order) = true)
    (a_l_refused : PySem.W.nsIn K mainGlobals "_law_refused" = some (some (.ref f_l_refused)))
    (l_l_refused : K.lookup f_l_refused = some ⟨oc_l_refused, od_l_refused, .func (PySem.W.fnOf "_law_refused" "_law_refused" (defArgs s_l_refused) (defBody s_l_refused) (defScope s_l_refused) .none kV_l_refused dc_l_refused pm_l_refused an_l_refused cd_l_refused ct_l_refused), sl_l_refused⟩)
    (e_l_refused : PySem.W.codeIn K cd_l_refused "_law_refused" = true)
    (p_l_refused : PySem.W.keepIn K (.ref f_l_refused) = true)
    (a_law : PySem.W.nsIn K mainGlobals "law" = some (some (.ref f_law)))
    (l_law : K.lookup f_law = some ⟨oc_law, od_law, .func (PySem.W.fnOf "law" "law" (defArgs s_law) (defBody s_law) (defScope s_law) .none kV_law dc_law pm_law an_law cd_law ct_law), sl_law⟩)
    (e_law : PySem.W.codeIn K cd_law "law" = true)
    (p_law : PySem.W.keepIn K (.ref f_law) = true)
    (x_LockError : PySem.W.excIn K c_LockError [.type "ValueError", .type "Exception", .type "BaseException", .type "object"] "ValueError.__new__" = true)
    (x_BadFlight : PySem.W.excIn K c_BadFlight [.type "ValueError", .type "Exception", .type "BaseException", .type "object"] "ValueError.__new__" = true)
    (x_BadText : PySem.W.excIn K c_BadText [.type "ValueError", .type "Exception", .type "BaseException", .type "object"] "ValueError.__new__" = true)
    (z_ValueError : PySem.W.nsIn K mainGlobals "ValueError" = some none)
    (z_isinstance : PySem.W.nsIn K mainGlobals "isinstance" = some none)
    (z_len : PySem.W.nsIn K mainGlobals "len" = some none)
    (z_range : PySem.W.nsIn K mainGlobals "range" = some none)
    (ws : PySem.W.specialIn K (.builtin "object.__class__") "__get__" = some (some (.builtin "getset_descriptor.__get__")))
    (wt : PySem.W.takesIn K (.builtin "object.__class__") = some true)
    (wg_BadText : PySem.W.findIn K (.ref c_BadText) "__getattribute__" = some (some (.builtin "BaseException.__getattribute__")))
    (wr_BadText : PySem.W.findIn K (.ref c_BadText) "__getattr__" = some none)
    (wc_BadText : PySem.W.findIn K (.ref c_BadText) "__class__" = some (some (.builtin "object.__class__")))
    (wo_BadText : PySem.W.mroIn K c_BadText (.type "object") = some true)
    (wb_BadText : PySem.W.mroIn K c_BadText (.type "BaseException") = some true)
    (q_int_int : PySem.W.kitOne K (.type "int") (.type "int") = some true)
    (q_int_bool : PySem.W.kitOne K (.type "int") (.type "bool") = some false)
    (q_bool_bool : PySem.W.kitOne K (.type "bool") (.type "bool") = some true)
    (q_list_list : PySem.W.kitOne K (.type "list") (.type "list") = some true)
    (q_BT_BT : PySem.W.exmOne K (.ref c_BadText) (.ref c_BadText) = some true)
    (q_i_BT_LE : PySem.W.kitOne K (.ref c_BadText) (.ref c_LockError) = some true)
    (q_i_BT_VE : PySem.W.kitOne K (.ref c_BadText) (.type "ValueError") = some true)
    (q_i_BT_BF : PySem.W.kitOne K (.ref c_BadText) (.ref c_BadFlight) = some false)
    : ∃ fd : FuncData, (∀ (s : Shared) (v : Value), BindsTo s fd ⟨[v], []⟩ [("script", v)]) ∧ ∀ base : Heap, K.In base → base.Ns mainGlobals mg → FnOk l.prog w K mg base (CXe l.prog w) 5 fa fd ["script"] (sp_law K) := by
  have e := hfa.symm.trans (PySem.W.mg_of X G a_law)
  cases e
  have F_read_order := fun_mk (st := s_read_order) l_read_order e_read_order p_read_order
  have F_l_cell_at := fun_mk (st := s_l_cell_at) l_l_cell_at e_l_cell_at p_l_cell_at
  have F_l_order := fun_mk (st := s_l_order) l_l_order e_l_order p_l_order
  have F_l_refused := fun_mk (st := s_l_refused) l_l_refused e_l_refused p_l_refused
  have F_law := fun_mk (st := s_law) l_law e_law p_law
  have T : Txt w K mg (⟨c_LockError, c_BadFlight, c_BadText, c_LockError, c_LockError, c_LockError, c_LockError, c_LockError, c_LockError, k_MOST_LETTERS, d_SIDES, f_read_order, PySem.W.fnOf "read_order" "read_order" (defArgs s_read_order) (defBody s_read_order) (defScope s_read_order) .none kV_read_order dc_read_order pm_read_order an_read_order cd_read_order ct_read_order, f_l_cell_at, PySem.W.fnOf "_law_cell_at" "_law_cell_at" (defArgs s_l_cell_at) (defBody s_l_cell_at) (defScope s_l_cell_at) .none kV_l_cell_at dc_l_cell_at pm_l_cell_at an_l_cell_at cd_l_cell_at ct_l_cell_at, f_l_order, PySem.W.fnOf "_law_order" "_law_order" (defArgs s_l_order) (defBody s_l_order) (defScope s_l_order) .none kV_l_order dc_l_order pm_l_order an_l_order cd_l_order ct_l_order, f_l_refused, PySem.W.fnOf "_law_refused" "_law_refused" (defArgs s_l_refused) (defBody s_l_refused) (defScope s_l_refused) .none kV_l_refused dc_l_refused pm_l_refused an_l_refused cd_l_refused ct_l_refused, fa, PySem.W.fnOf "law" "law" (defArgs s_law) (defBody s_law) (defScope s_law) .none kV_law dc_law pm_law an_law cd_law ct_law⟩ : Adr) := ⟨PySem.W.mg_of X G a_LockError,
    PySem.W.mg_of X G a_BadFlight,
    PySem.W.mg_of X G a_BadText,
    x_LockError,
    x_BadFlight,
    x_BadText,
    PySem.W.mg_of X G a_MOST_LETTERS,
    PySem.W.mg_of X G a_SIDES,
    ⟨sd_SIDES, ⟨_, _, _, ld_SIDES, ⟨rfl, rfl, rfl⟩, rfl, .cons (keyIs_str _ _) hh0_SIDES ⟨_, rfl⟩ (.cons (keyIs_str _ _) hh1_SIDES ⟨_, rfl⟩ (.nil))⟩, by decide⟩,
    F_read_order,
    F_read_order.binds (fun _ _ _ _ _ _ us hl => match us, hl with | [_], _ => rfl),
    PySem.W.mg_of X G a_read_order,
    F_l_cell_at,
    F_l_cell_at.binds (fun _ _ _ _ _ _ us hl => match us, hl with | [_, _], _ => rfl),
    PySem.W.mg_of X G a_l_cell_at,
    F_l_order,
    F_l_order.binds (fun _ _ _ _ _ _ us hl => match us, hl with | [_, _, _], _ => rfl),
    PySem.W.mg_of X G a_l_order,
    F_l_refused,
    F_l_refused.binds (fun _ _ _ _ _ _ us hl => match us, hl with | [_], _ => rfl),
    PySem.W.mg_of X G a_l_refused,
    F_law,
    F_law.binds (fun _ _ _ _ _ _ us hl => match us, hl with | [_], _ => rfl),
    PySem.W.mg_of X G a_law,
    PySem.W.mg_none_of X G z_ValueError,
    PySem.W.mg_none_of X G z_isinstance,
    PySem.W.mg_none_of X G z_len,
    PySem.W.mg_none_of X G z_range,
    ⟨wg_BadText, wr_BadText, wc_BadText, ws, wt, wo_BadText, wb_BadText⟩,
    q_int_int,
    q_int_bool,
    q_bool_bool,
    q_list_list,
    q_BT_BT,
    q_i_BT_LE,
    q_i_BT_VE,
    q_i_BT_BF⟩
  exact ⟨PySem.W.fnOf "law" "law" (defArgs s_law) (defBody s_law) (defScope s_law) .none kV_law dc_law pm_law an_law cd_law ct_law, fun s v => .of_eq rfl, fun base _ _ => ok_law T⟩
theorem walk {l : PySem.W.OpenLaw} {q : Program} {loose : List Str} {XP : (Str → Option Value) → Heap → Prop} {YP : World → Heap → Prop} {d : DefRec} {K : Params → PySem.W.Frag} (hn : l.most = some 63) (hdf : d.params.defaults = [])
    (hY : ∀ (w : World) (h : Heap), YP w h → (K w.params).In h)
    (F : ∀ (w : World) (mg : Str → Option Value) (fa : Addr) (h : Heap), (K w.params).In h → h.Ns mainGlobals mg → mg d.name = some (.ref fa) →
      ∃ fd : FuncData, (∀ (s : Shared) (u : Value), BindsTo s fd ⟨[u], []⟩ [("script", u)]) ∧ ∀ base : Heap, (K w.params).In base → base.Ns mainGlobals mg → FnOk l.prog w (K w.params) mg base (CXe l.prog w) 5 fa fd ["script"] (sp_law (K w.params))) :
    PySem.W.WalkO q loose XP YP l.row.toRowW d [] (fun f vs => PySem.call f vs) :=
  L2.walk_of (n := 63) (k := 5) (x := "script") (CX := fun w => CXe l.prog w) (sp := fun w => sp_law (K w.params)) hn (by decide) hdf ⟨rfl, by decide, by decide⟩ hY F (fun _ _ a ns hl _ hS => ⟨a, ns, rfl, hS, hl, fun _ => rfl⟩) fun _ _ _ _ _ z => by
    obtain ⟨_, _, _, _, _, _, _, _, _, _, _, _, _, _, z⟩ := z; exact z
end KW

set_option Elab.async false
set_option linter.all false
open PySem PySem.W PyProof.Rows
set_option maxRecDepth 100000 in
set_option maxHeartbeats 0 in
theorem PySem.Challenge.cw_lockflight_k18_texts_refused_holds : PySem.Challenge.rw_lockflight_k18_texts_refused.Holds := by
  w_on; o_law; k_head; (case hw => w_witness2)
  k_fill
  refine KW.walk (l := PySem.Challenge.rw_lockflight_k18_texts_refused) rfl rfl (fun w h Y => PySem.W.kIn_of Y) ?F
  case F =>
    intro w mg fa h KX G hmg
    refine' KW.all_mk KX G hmg ?a_LockError ?a_BadFlight ?a_BadText ?a_MOST_LETTERS ?a_SIDES ?ld_SIDES ?sd_SIDES ?hh0_SIDES ?hh1_SIDES ?a_read_order ?l_read_order ?e_read_order ?p_read_order ?a_l_cell_at ?l_l_cell_at ?e_l_cell_at ?p_l_cell_at ?a_l_order ?l_l_order ?e_l_order ?p_l_order ?a_l_refused ?l_l_refused ?e_l_refused ?p_l_refused ?a_law ?l_law ?e_law ?p_law ?x_LockError ?x_BadFlight ?x_BadText ?z_ValueError ?z_isinstance ?z_len ?z_range ?ws ?wt ?wg_BadText ?wr_BadText ?wc_BadText ?wo_BadText ?wb_BadText ?q_int_int ?q_int_bool ?q_bool_bool ?q_list_list ?q_BT_BT ?q_i_BT_LE ?q_i_BT_VE ?q_i_BT_BF
    (case a_LockError => k_is)
    (case a_BadFlight => k_is)
    (case a_BadText => k_is)
    (case a_MOST_LETTERS => k_is)
    (case a_SIDES => k_is)
    (case ld_SIDES => k_is)
    (case sd_SIDES => decide)
    (case hh0_SIDES => first | rfl | (unfold hashStr; rfl))
    (case hh1_SIDES => first | rfl | (unfold hashStr; rfl))
    (case a_read_order => k_is)
    (case l_read_order => k_is)
    (case e_read_order => k_is)
    (case p_read_order => k_is)
    (case a_l_cell_at => k_is)
    (case l_l_cell_at => k_is)
    (case e_l_cell_at => k_is)
    (case p_l_cell_at => k_is)
    (case a_l_order => k_is)
    (case l_l_order => k_is)
    (case e_l_order => k_is)
    (case p_l_order => k_is)
    (case a_l_refused => k_is)
    (case l_l_refused => k_is)
    (case e_l_refused => k_is)
    (case p_l_refused => k_is)
    (case a_law => k_is)
    (case l_law => k_is)
    (case e_law => k_is)
    (case p_law => k_is)
    (case x_LockError => k_exc)
    (case x_BadFlight => k_exc)
    (case x_BadText => k_exc)
    (case z_ValueError => k_is)
    (case z_isinstance => k_is)
    (case z_len => k_is)
    (case z_range => k_is)
    (case ws => k_is)
    (case wt => k_is)
    (case wg_BadText => k_is)
    (case wr_BadText => k_is)
    (case wc_BadText => k_is)
    (case wo_BadText => k_is)
    (case wb_BadText => k_is)
    (case q_int_int => kit_is)
    (case q_int_bool => kit_is)
    (case q_bool_bool => kit_is)
    (case q_list_list => kit_is)
    (case q_BT_BT => kts_exm)
    (case q_i_BT_LE => kit_is)
    (case q_i_BT_VE => kit_is)
    (case q_i_BT_BF => kit_is)
