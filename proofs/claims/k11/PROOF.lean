import PyProof.Rows.All
import Wide.All
import OpenK.AllK
import Wide.FinOn
import Lean
import PyProof.EqAt
import PyProof.EqKinds
import PyProof.TupleCall
import KE.KDictOf
import KE.KMinBuiltin
import KE.KMinKey
import KE.KLam
import PySem.Challenge.RW_lockflight_k11_bad_flights
-- CHANGE: your row's module here, as the last of these rows
set_option Elab.async false
set_option linter.all false
set_option maxRecDepth 100000
namespace L2
open PySem PySem.Spec PyProof.Rows

abbrev Key := Sum Int Str
def keyIs : Key → Value → Bool
  | .inl k, v => Value.isInt k v
  | .inr x, v => Value.isStrOf x v
def keyH (w : World) : Key → Int
  | .inl k => hashInt k
  | .inr x => hashStr w x
theorem keyIs_shape : ∀ {k : Key} {v : Value}, keyIs k v = true → (∃ i t, k = Sum.inl i ∧ v = Value.int i t) ∨ (∃ x t, k = Sum.inr x ∧ v = Value.str x t)
  | .inl i, v, h => by
    obtain ⟨t, e⟩ := Value.isInt_shape (k := i) (v := v) h
    exact .inl ⟨i, t, rfl, e⟩
  | .inr x, v, h => by
    obtain ⟨t, e⟩ := Value.isStrOf_shape (x := x) (v := v) h
    exact .inr ⟨x, t, rfl, e⟩
theorem keyIs_int (i : Int) (t : Tok) : keyIs (.inl i) (.int i t) = true := by simp [keyIs, Value.isInt]
theorem keyIs_str (x : Str) (t : Tok) : keyIs (.inr x) (.str x t) = true := by simp [keyIs, Value.isStrOf]
theorem key_ll (a b : Int) : decide ((Sum.inl a : Key) = Sum.inl b) = (a == b) := by
  by_cases e : a = b
  · subst e; simp
  · have h : ¬ (Sum.inl a : Key) = Sum.inl b := fun q => e (Sum.inl.inj q)
    rw [decide_eq_false h]
    exact (beq_eq_false_iff_ne.mpr e).symm
theorem key_rr (a b : Str) : decide ((Sum.inr a : Key) = Sum.inr b) = decide (a = b) := by
  by_cases e : a = b
  · subst e; simp
  · have h : ¬ (Sum.inr a : Key) = Sum.inr b := fun q => e (Sum.inr.inj q)
    rw [decide_eq_false h, decide_eq_false e]
theorem key_lr (a : Int) (b : Str) : decide ((Sum.inl a : Key) = Sum.inr b) = false := decide_eq_false (fun q => nomatch q)
theorem key_rl (a : Str) (b : Int) : decide ((Sum.inr a : Key) = Sum.inl b) = false := decide_eq_false (fun q => nomatch q)

def mixKind (prog : Program) (w : World) : PySem.KeyKind prog w Key where
  is := keyIs
  hash := keyH w
  inj := fun v a b ha hb => by
    rcases keyIs_shape ha with ⟨i, t, rfl, rfl⟩ | ⟨x, t, rfl, rfl⟩
    · rcases keyIs_shape hb with ⟨j, u, rfl, e⟩ | ⟨y, u, rfl, e⟩
      · injection e with e1 _; rw [e1]
      · exact nomatch e
    · rcases keyIs_shape hb with ⟨j, u, rfl, e⟩ | ⟨y, u, rfl, e⟩
      · exact nomatch e
      · injection e with e1 _; rw [e1]
  byValue := fun k v h => by
    rcases keyIs_shape h with ⟨i, t, rfl, rfl⟩ | ⟨x, t, rfl, rfl⟩ <;> rfl
  pyHash := fun hv h => by
    rcases keyIs_shape hv with ⟨i, t, rfl, rfl⟩ | ⟨x, t, rfl, rfl⟩
    · exact wpAny_pyHash_int h
    · exact wpAny_pyHash_str h
  eqBool := fun hu hv h => by
    rcases keyIs_shape hu with ⟨i, t, rfl, rfl⟩ | ⟨x, t, rfl, rfl⟩
    · rcases keyIs_shape hv with ⟨j, u, rfl, rfl⟩ | ⟨y, u, rfl, rfl⟩
      · rw [key_ll] at h; exact wpAny_eqBool_int h
      · rw [key_lr] at h; exact SeqAt.EqAt.int_str i t y u _ _ _ _ h
    · rcases keyIs_shape hv with ⟨j, u, rfl, rfl⟩ | ⟨y, u, rfl, rfl⟩
      · rw [key_rl] at h; exact SeqAt.EqAt.str_int x t j u _ _ _ _ h
      · rw [key_rr] at h; exact wpAny_eqBool_str h
  «strs» := fun k x t v h => by
    rcases keyIs_shape h with ⟨i, u, rfl, e⟩ | ⟨y, u, rfl, e⟩
    · exact nomatch e
    · injection e with e1 _
      subst e1
      cases v <;> rfl

theorem mixKind_int (prog : Program) (w : World) (i : Int) (t : Tok) : (mixKind prog w).is (.inl i) (.int i t) = true := keyIs_int i t
theorem mixKind_str (prog : Program) (w : World) (x : Str) (t : Tok) : (mixKind prog w).is (.inr x) (.str x t) = true := keyIs_str x t
end L2

namespace L2
open PySem PySem.Spec PyProof.Rows

inductive V where
  | non | bl (b : Bool) | int (i : Int) | str (x : Str) | byt (b : Array UInt8) | flt (b : UInt64) | ref (a : Addr) | ty (n : String)
  deriving DecidableEq

def RelV : V → Value → Prop
  | .non, u => u = Value.none
  | .bl b, u => u = Value.bool b
  | .int i, u => ∃ t, u = Value.int i t
  | .str x, u => ∃ t, u = Value.str x t
  | .byt b, u => ∃ t, u = Value.bytes b t
  | .flt b, u => ∃ t, u = Value.float b t
  | .ref a, u => u = Value.ref a
  | .ty n, u => u = Value.type n

abbrev Vals : List V → List Value → Prop := Paired RelV
theorem Vals.length {xs : List V} {us : List Value} (r : Vals xs us) : xs.length = us.length := Paired.length r
theorem Vals.get : ∀ {xs : List V} {us : List Value} {i : Nat} {x : V}, Vals xs us → xs[i]? = some x → ∃ u, us[i]? = some u ∧ RelV x u
  | _, _, _, _, .nil, e => by simp at e
  | _, _, 0, _, .cons r _, e => by simp at e; subst e; exact ⟨_, rfl, r⟩
  | _, _, i + 1, x, .cons _ t, e => by
    obtain ⟨u, h1, h2⟩ := Vals.get (i := i) (x := x) t (by simpa using e)
    exact ⟨u, by simpa using h1, h2⟩
theorem Vals.set {x : V} {u : Value} (r : RelV x u) : ∀ {xs : List V} {us : List Value} (i : Nat), Vals xs us → Vals (xs.set i x) (us.set i u)
  | _, _, _, .nil => .nil
  | _, _, 0, .cons _ t => .cons r t
  | _, _, i + 1, .cons q t => .cons q (Vals.set r i t)
theorem Vals.append : ∀ {xs ys : List V} {us ws : List Value}, Vals xs us → Vals ys ws → Vals (xs ++ ys) (us ++ ws)
  | _, _, _, _, .nil, s => s
  | _, _, _, _, .cons r t, s => .cons r (Vals.append t s)
theorem Vals.take : ∀ {xs : List V} {us : List Value} (n : Nat), Vals xs us → Vals (xs.take n) (us.take n)
  | _, _, 0, _ => .nil
  | _, _, _ + 1, .nil => .nil
  | _, _, n + 1, .cons r t => .cons r (Vals.take n t)
theorem Vals.drop : ∀ {xs : List V} {us : List Value} (n : Nat), Vals xs us → Vals (xs.drop n) (us.drop n)
  | _, _, 0, r => r
  | _, _, _ + 1, .nil => .nil
  | _, _, n + 1, .cons _ t => Vals.drop n t
def RelO : Option V → Option Value → Prop
  | some v, some u => RelV v u
  | none, none => True
  | _, _ => False
def KV {κ : Type} : List (κ × V) → List (κ × Value) → Prop := Paired fun (p : κ × V) (q : κ × Value) => p.1 = q.1 ∧ RelV p.2 q.2

def kV : Key → V
  | .inl i => .int i
  | .inr x => .str x

inductive HO where
  /-- a list -/
  | lst (xs : List V)
  /-- a tuple (never changes) -/
  | tup (xs : List V)
  /-- a dict whose keys are ints and texts; one whose keys are tuples of ints and texts (the empty one is both) -/
  | dK (kvs : List (Key × V)) | dT (kvs : List (List Key × V))
  /-- a set of ints: its members, its size -/
  | set (S : Int → Bool) (n : Nat)
  /-- an instance of the class at C, its dict at dx, its attributes -/
  | ins (C dx : Addr) (fs : List (Str × V))
  /-- the dict of the instance at x -/
  | own (x : Addr)
  /-- the dict of an exception -/
  | xd (fs : List (Str × V))
  /-- a bound method, f of x -/
  | met (f x : Addr)
  /-- a range object lo, lo + 1, .. below hi -/
  | rng (lo hi : Int)
  /-- a thing that is known to the object (the script; a dict while a loop walks it): read, never written while it is so -/
  | frz (o : Obj) (u : HO)
  /-- a code object's table -/
  | tbl (ps : Array Value)
  /-- any other thing, by what is true of its one object (a def of one's own: SetO a S n := HO.ext fun h => ..) -/
  | ext (φ : Heap → Prop)

abbrev Hp := Addr → Option HO
def upd (H : Hp) (a : Addr) (o : HO) : Hp := fun b => if b = a then some o else H b
theorem upd_same {H : Hp} {a : Addr} {o : HO} : upd H a o a = some o := by unfold upd; rw [if_pos rfl]
theorem upd_ne {H : Hp} {a b : Addr} {o : HO} (h : b ≠ a) : upd H a o b = H b := by unfold upd; rw [if_neg h]
theorem upd_upd {H : Hp} {a : Addr} {o u : HO} : upd (upd H a o) a u = upd H a u := by
  funext b; unfold upd; split <;> rfl
theorem ne_of {H : Hp} {a b : Addr} {o u : HO} (h : H a = some o) (h' : H b = some u) (d : o ≠ u) : a ≠ b := by
  intro e; subst e; rw [h] at h'; exact d (Option.some.inj h')
theorem ne_of_none {H : Hp} {a b : Addr} {o : HO} (h : H a = some o) (h' : H b = none) : a ≠ b := by
  intro e; subst e; rw [h] at h'; cases h'

section
variable (P : Program) (w : World)
def ObjOk (H : Hp) (h : Heap) (a : Addr) : HO → Prop
  | .lst xs => xs.length ≤ sizeLine ∧ ∃ (its : List Value) (n : Nat), Vals xs its ∧ h.get? a = some { cls := .type "list", data := .seq its.toArray n }
  | .tup xs => xs.length ≤ sizeLine ∧ ∃ its : List Value, Vals xs its ∧ IsTup h a its.toArray
  | .dK kvs => kvs.length ≤ sizeLine ∧ (a == sysModules) = false ∧ ∃ vs, KV kvs vs ∧ h.DictOf (mixKind P w) a vs
  | .dT kvs => kvs.length ≤ sizeLine ∧ (a == sysModules) = false ∧ ∃ xs : List (List Key × Addr × Value),
      Paired (fun (p : List Key × V) (q : List Key × Addr × Value) => p.1 = q.1 ∧ H q.2.1 = some (.tup (p.1.map kV)) ∧ RelV p.2 q.2.2) kvs xs ∧
      ∃ o es ep, h.get? a = some o ∧ o.ExactDict ∧ o.data = .dict es ep ∧ es.toList = xs.map (entryOfKey (tupleKind (mixKind P w))) ∧ (xs.map (·.1)).Nodup
  | .set S n => h.SetOf (intKind P w) a S n
  | .ins C dx fs => H dx = some (.own a) ∧ fs.length ≤ 1000 ∧ dx ≠ a ∧ h.get? a = some (PySem.W.instObj C dx) ∧
      ∃ mA, h.Ns1 dx mA ∧ (∀ f, RelO (fs.lookup f) (mA f)) ∧ PySem.Within mA (fs.map (·.1))
  | .own _ => ∃ o, h.get? a = some o
  | .xd fs => ∃ mA, h.Ns1 a mA ∧ ∀ f, RelO (fs.lookup f) (mA f)
  | .rng lo hi => ∃ t u v, h.get? a = some { cls := .type "range", data := .fields #[.int lo t, .int hi u, .int 1 v] }
  | .frz o u => h.get? a = some o ∧ ObjOk H h a u
  | .tbl ps => h.get? a = some { cls := .none, data := .fields ps }
  | .met f x => h.get? a = some (PySem.W.methodObj (.ref f) (.ref x))
  | .ext φ => φ h ∧ (∃ o, h.get? a = some o) ∧ ∀ h1 h2 : Heap, φ h1 → (∀ o, h1.get? a = some o → h2.get? a = some o) → φ h2
def HOk (H : Hp) (h : Heap) : Prop := ∀ a o, H a = some o → ObjOk P w H h a o
end

section
variable {P : Program} {w : World} {H H' : Hp} {h h' : Heap} {a : Addr} {o : HO}
theorem ObjOk.lt (x : ObjOk P w H h a o) : a < h.objs.size := by
  cases o with
  | lst xs => obtain ⟨_, _, _, _, e⟩ := x; exact Heap.lt_size e
  | tup xs => obtain ⟨_, _, _, p⟩ := x; exact p.lt
  | dK kvs => obtain ⟨_, _, _, _, o, _, _, e, _⟩ := x; exact Heap.lt_size e
  | dT kvs => obtain ⟨_, _, _, _, o, _, _, e, _⟩ := x; exact Heap.lt_size e
  | set S n => obtain ⟨o, _, _, _, e, _⟩ := x; exact Heap.lt_size e
  | ins C dx fs => obtain ⟨_, _, _, e, _⟩ := x; exact Heap.lt_size e
  | own y => obtain ⟨_, e⟩ := x; exact Heap.lt_size e
  | xd fs => obtain ⟨_, ⟨_, _, _, e, _⟩, _⟩ := x; exact Heap.lt_size e
  | rng lo hi => obtain ⟨_, _, _, e⟩ := x; exact Heap.lt_size e
  | frz ob u => obtain ⟨e, _⟩ := x; exact Heap.lt_size e
  | tbl ps => exact Heap.lt_size (show h.get? a = some _ from x)
  | met f y => exact Heap.lt_size (show h.get? a = some _ from x)
  | ext φ => obtain ⟨_, ⟨_, e⟩, _⟩ := x; exact Heap.lt_size e
theorem Paired.mapP {α β : Type} {F G : α → β → Prop} : ∀ {l₁ : List α} {l₂ : List β}, Paired F l₁ l₂ → (∀ a b, F a b → G a b) → Paired G l₁ l₂
  | _, _, .nil, _ => .nil
  | _, _, .cons r t, f => .cons (f _ _ r) (Paired.mapP t f)
theorem ObjOk.stay (x : ObjOk P w H h a o) (k : ∀ b u, (b = a ∨ H b = some (.own a)) → h.get? b = some u → h'.get? b = some u)
    (ho : ∀ b, H b = some (.own a) → H' b = some (.own a)) (ht : ∀ b xs, H b = some (.tup xs) → H' b = some (.tup xs)) : ObjOk P w H' h' a o := by
  induction o with
  | lst xs => obtain ⟨z, its, n, r, e⟩ := x; exact ⟨z, its, n, r, k _ _ (.inl rfl) e⟩
  | tup xs => obtain ⟨z, its, r, ob, e, c⟩ := x; exact ⟨z, its, r, ob, k _ _ (.inl rfl) e, c⟩
  | dK kvs => obtain ⟨z, y, vs, r, ob, es, ep, e, c⟩ := x; exact ⟨z, y, vs, r, ob, es, ep, k _ _ (.inl rfl) e, c⟩
  | dT kvs =>
    obtain ⟨z, y, xs, r, ob, es, ep, e, c⟩ := x
    exact ⟨z, y, xs, Paired.mapP r fun p q z => ⟨z.1, ht _ _ z.2.1, z.2.2⟩, ob, es, ep, k _ _ (.inl rfl) e, c⟩
  | set S n => obtain ⟨ob, es, ep, t, e, c⟩ := x; exact ⟨ob, es, ep, t, k _ _ (.inl rfl) e, c⟩
  | ins C dx fs =>
    obtain ⟨d, z, ne, e, mA, ⟨od, es, ep, e2, c⟩, r⟩ := x
    exact ⟨ho _ d, z, ne, k _ _ (.inl rfl) e, mA, ⟨od, es, ep, k _ _ (.inr d) e2, c⟩, r⟩
  | own y => obtain ⟨ob, e⟩ := x; exact ⟨ob, k _ _ (.inl rfl) e⟩
  | xd fs => obtain ⟨mA, ⟨od, es, ep, e, c⟩, r⟩ := x; exact ⟨mA, ⟨od, es, ep, k _ _ (.inl rfl) e, c⟩, r⟩
  | rng lo hi => obtain ⟨t, u, v, e⟩ := x; exact ⟨t, u, v, k _ _ (.inl rfl) e⟩
  | frz ob u ih => obtain ⟨e, q⟩ := x; exact ⟨k _ _ (.inl rfl) e, ih q⟩
  | tbl ps =>
    have e : h.get? a = some { cls := .none, data := .fields ps } := x
    show h'.get? a = some { cls := .none, data := .fields ps }
    exact k a _ (.inl rfl) e
  | met f y =>
    have e : h.get? a = some (PySem.W.methodObj (.ref f) (.ref y)) := x
    show h'.get? a = some (PySem.W.methodObj (.ref f) (.ref y))
    exact k a _ (.inl rfl) e
  | ext φ => obtain ⟨p, ⟨o, e⟩, st⟩ := x; exact ⟨st _ _ p fun o q => k _ _ (.inl rfl) q, ⟨o, k _ _ (.inl rfl) e⟩, st⟩
theorem HOk.lt (x : HOk P w H h) (e : H a = some o) : a < h.objs.size := (x a o e).lt
theorem HOk.fresh (x : HOk P w H h) (e : h.objs.size ≤ a) : H a = none := by
  cases q : H a with
  | none => rfl
  | some u => exact absurd (Nat.lt_of_lt_of_le (x.lt q) e) (Nat.lt_irrefl _)
theorem HOk.kept (x : HOk P w H h) (k : ∀ b u, h.get? b = some u → h'.get? b = some u) : HOk P w H h' := fun a o e =>
  (x a o e).stay (fun b u _ q => k b u q) (fun _ q => q) fun _ _ q => q
theorem HOk.laid (x : HOk P w H h) (k : ∀ b u, h.get? b = some u → h'.get? b = some u) (hp : h.objs.size ≤ a) (new : ObjOk P w (upd H a o) h' a o) : HOk P w (upd H a o) h' := fun b u e => by
  have hn := x.fresh hp
  by_cases hb : b = a
  · subst hb; rw [upd_same] at e; cases e; exact new
  · rw [upd_ne hb] at e
    exact (x b u e).stay (fun c v _ q => k c v q) (fun c q => by rw [upd_ne (ne_of_none q hn)]; exact q) fun c xs q => by rw [upd_ne (ne_of_none q hn)]; exact q
end

def Rd (H : Hp) (a : Addr) (u : HO) : Prop := H a = some u ∨ ∃ o, H a = some (.frz o u)
theorem Rd.ok {P : Program} {w : World} {H : Hp} {h : Heap} {a : Addr} {u : HO} (r : Rd H a u) (x : HOk P w H h) : ObjOk P w H h a u := by
  rcases r with r | ⟨o, r⟩
  · exact x a u r
  · obtain ⟨_, q⟩ := x a _ r
    exact q
def Mut : Option HO → Prop
  | some (.lst _) => True
  | some (.dK _) => True
  | some (.dT _) => True
  | some (.set _ _) => True
  | some (.ins _ _ _) => True
  | some (.ext _) => True
  | _ => False
section
variable {P : Program} {w : World} {H : Hp} {h h' : Heap} {x e : Addr} {o' : HO}
theorem HOk.write (ok : HOk P w H h) (mu : Mut (H x)) (he : e = x ∨ H e = some (.own x)) (k : ∀ b u, b ≠ e → h.get? b = some u → h'.get? b = some u) (heo : ∃ u, h'.get? e = some u)
    (new : ObjOk P w (upd H x o') h' x o') : HOk P w (upd H x o') h' := fun b u q => by
  have nown : ∀ c y, H c = some (.own y) → c ≠ x := fun c y r z => by subst z; rw [r] at mu; exact mu
  have ntup : ∀ c xs, H c = some (.tup xs) → c ≠ x := fun c xs r z => by subst z; rw [r] at mu; exact mu
  by_cases hb : b = x
  · subst hb; rw [upd_same] at q; cases q; exact new
  · rw [upd_ne hb] at q
    by_cases hbe : b = e
    · have q' : H b = some (.own x) := by
        rcases he with z | z
        · exact absurd (hbe.trans z) hb
        · rw [hbe]; exact z
      rw [q] at q'; cases q'
      obtain ⟨v, hv⟩ := heo
      exact ⟨v, by rw [hbe]; exact hv⟩
    · refine (ok b u q).stay (fun c v hc r => k c v ?_ r) (fun c r => by rw [upd_ne (nown c b r)]; exact r) fun c xs r => by rw [upd_ne (ntup c xs r)]; exact r
      rcases hc with rfl | hc
      · exact hbe
      · rintro rfl
        rcases he with z | z
        · exact nown c b hc z
        · rw [hc] at z; cases z; exact hb rfl
end

structure Un (fs ex : List Addr) (H H' : Hp) (h h' : Heap) : Prop where
  keep : ∀ b o, h.get? b = some o → H b = none → b ∉ fs → b ∉ ex → h'.get? b = some o
  slot : ∀ b o, h.get? b = some o → H b = none → b ∈ fs → b ∉ ex → ∃ sl, h'.get? b = some { o with slots := sl }
  free : ∀ b o, h.get? b = some o → H b = none → b ∉ ex → H' b = none
  there : ∀ b o, h.get? b = some o → b ∉ ex → ∃ o', h'.get? b = some o'
  tups : ∀ b xs, H b = some (.tup xs) → H' b = some (.tup xs)
  frzs : ∀ b o u, H b = some (.frz o u) → H' b = some (.frz o u)
  tbls : ∀ b ps, H b = some (.tbl ps) → ∃ more, H' b = some (.tbl (ps ++ more))
section
variable {fs fs' ex ex' : List Addr} {H H1 H2 : Hp} {h h1 h2 h' : Heap} {a x e : Addr} {o : HO}
theorem Un.any (u : Un fs ex H H1 h h1) {b : Addr} {ob : Obj} (q : h.get? b = some ob) (n : H b = none) (hx : b ∉ ex) : ∃ sl, h1.get? b = some { ob with slots := sl } := by
  by_cases hb : b ∈ fs
  · exact u.slot b ob q n hb hx
  · exact ⟨ob.slots, u.keep b ob q n hb hx⟩
theorem Un.kept (k : ∀ b u, h.get? b = some u → h'.get? b = some u) : Un fs ex H H h h' :=
  ⟨fun b ob q _ _ _ => k b ob q, fun b ob q _ _ _ => ⟨ob.slots, k b ob q⟩, fun _ _ _ n _ => n, fun b ob q _ => ⟨ob, k b ob q⟩, fun _ _ q => q, fun _ _ _ q => q, fun _ ps q => ⟨#[], by rw [q]; simp⟩⟩
theorem Un.refl : Un fs ex H H h h := Un.kept fun _ _ q => q
theorem Un.laid (k : ∀ b u, h.get? b = some u → h'.get? b = some u) (hp : h.objs.size ≤ a) (hn : H a = none) : Un fs ex H (upd H a o) h h' where
  keep := fun b u q _ _ _ => k b u q
  slot := fun b u q _ _ _ => ⟨u.slots, k b u q⟩
  free := fun b u q n _ => by rw [upd_ne (Nat.ne_of_lt (Nat.lt_of_lt_of_le (Heap.lt_size q) hp))]; exact n
  there := fun b u q _ => ⟨u, k b u q⟩
  tups := fun b xs q => by rw [upd_ne (ne_of_none q hn)]; exact q
  frzs := fun b u xs q => by rw [upd_ne (ne_of_none q hn)]; exact q
  tbls := fun b ps q => ⟨#[], by rw [upd_ne (ne_of_none q hn), q]; simp⟩
theorem Un.write (mu : Mut (H x)) (he : e = x ∨ H e = some (.own x)) (k : ∀ b u, b ≠ e → h.get? b = some u → h'.get? b = some u) (heo : ∃ u, h'.get? e = some u) : Un fs ex H (upd H x o) h h' := by
  have hx : ∀ b, H b = none → b ≠ x := fun b n z => by subst z; rw [n] at mu; exact mu
  have hb : ∀ b, H b = none → b ≠ e := fun b n z => by
    subst z
    rcases he with r | r
    · exact hx b n r
    · rw [n] at r; cases r
  have hm : ∀ b u, H b = some u → ¬ Mut (some u) → b ≠ x := fun b u q nm z => by subst z; rw [q] at mu; exact nm mu
  refine ⟨fun b u q n _ _ => k b u (hb b n) q, fun b u q n _ _ => ⟨u.slots, k b u (hb b n) q⟩, fun b u q n _ => by rw [upd_ne (hx b n)]; exact n, fun b u q _ => ?_,
    fun b xs q => by rw [upd_ne (hm b _ q fun z => z)]; exact q, fun b u xs q => by rw [upd_ne (hm b _ q fun z => z)]; exact q, fun b ps q => ⟨#[], by rw [upd_ne (hm b _ q fun z => z), q]; simp⟩⟩
  by_cases hbe : b = e
  · subst hbe; exact heo
  · exact ⟨u, k b u hbe q⟩
end

def trk (h : Heap) (H : Hp) : List Addr := (List.range h.objs.size).filter fun a => (H a).isSome
def hidT (h : Heap) (H : Hp) : Heap := PySem.W.hideAll h (trk h H)
theorem hidT_size (h : Heap) (H : Hp) : (hidT h H).objs.size = h.objs.size := PySem.W.hideAll_size _ _
theorem hidT_get {h : Heap} {H : Hp} {b : Addr} {o : Obj} (e : h.get? b = some o) (n : H b = none) : (hidT h H).get? b = some o :=
  PySem.W.hideAll_get _ e fun hm => by
    have q : (H b).isSome = true := (List.mem_filter.mp hm).2
    rw [n] at q; simp at q
theorem of_hidT {h : Heap} {H : Hp} {b : Addr} {o : Obj} (e : (hidT h H).get? b = some o) : h.get? b = some o ∧ H b = none := by
  have e' : h.get? b = some o := PySem.W.of_hideAll (trk h H) e
  refine ⟨e', ?_⟩
  cases q : H b with
  | none => rfl
  | some x =>
    have hm : b ∈ trk h H := List.mem_filter.mpr ⟨List.mem_range.mpr (Heap.lt_size e'), by simp [q]⟩
    have z : (hidT h H).get? b = none := PySem.W.hideAll_none (trk h H) hm
    rw [z] at e; cases e

def allNews (g h : Heap) (L : Addr) : List (Addr × Obj) := (List.range h.objs.size).filterMap fun a => if a = L ∨ (g.get? a).isSome = true then none else (h.get? a).map fun o => (a, o)
def rest (g h : Heap) (L d : Addr) : List (Addr × Obj) := (allNews g h L).filter fun p => decide (p.1 ≠ d)
end L2

namespace L2
open PySem PySem.Spec PyProof.Rows

structure Mod (K : PySem.W.Frag) (mg : Str → Option Value) (base : Heap) : Prop where
  kin : K.In base
  glob : base.Ns mainGlobals mg
  blt : ∃ mb, base.Ns builtinsNs mb ∧ ∀ x : Str, x ≠ "__name__" → mb x = bootBuiltins x
  nolimit : base.NoLimit

structure Cx where
  prog : Program
  w : World
  K : PySem.W.Frag
  mg : Str → Option Value
  base : Heap
  A : Around
  N : List Str
  s₀ : Shared
  H₀ : Hp
  env : Env
  outer : List Env
  stack : List Env
  ex : List Addr
  fn : Str → Bool
  calm : Bool
  pn : List (Addr × Obj)
  xe : Value → Shared → Prop
def frs (l : List Env) : List Addr := l.filterMap (·.frame)
abbrev Cx.fs (X : Cx) : List Addr := frs X.outer

def Vis (sc : Scope) (x : Str) : Prop := sc.names.lookup x = some .local ∨ sc.names.lookup x = some .cell ∨ sc.names.lookup x = some .free
def Loc (sc : Scope) (x : Str) : Prop := sc.names.lookup x = some .local ∨ sc.names.lookup x = some .cell
def Look (env : Env) (h : Heap) (m : Str → Option Value) (x : Str) (u : Value) : Prop :=
  (env.kindOf x = some .local ∧ m x = some u) ∨ ((env.kindOf x = some .cell ∨ env.kindOf x = some .free) ∧ ∃ c, env.cells.lookup x = some c ∧ h.IsCell c (some u))

structure Cx.Ok (X : Cx) : Prop where
  mod : Mod X.K X.mg X.base
  kind : X.env.scope.kind = .function
  glob : X.env.globals = mainGlobals
  blt : X.env.builtins = builtinsNs
  above : X.s₀.heap.objs.size ≤ X.env.locals
  inj : ∀ x y c, X.env.cells.lookup x = some c → X.env.cells.lookup y = some c → x = y
  has : ∀ x, (X.env.kindOf x = some .cell ∨ X.env.kindOf x = some .free) → ∃ c, X.env.cells.lookup x = some c
  cab : ∀ x c, X.fn x = true → X.env.cells.lookup x = some c → X.s₀.heap.objs.size ≤ c
  hd : X.calm = true → X.A.handled = none
  frames : X.A.frames = some X.stack
  stk : X.stack = X.outer ∨ (X.stack = X.env :: X.outer ∧ X.env.frame = some X.env.locals)
  exf : ∀ b ∈ X.ex, b ≠ X.env.locals ∧ ∀ x c, X.env.cells.lookup x = some c → c ≠ b
  bs : ∀ b o, X.base.get? b = some o → X.s₀.heap.get? b = some o ∧ X.H₀ b = none
  bsz : X.base.objs.size ≤ X.s₀.heap.objs.size
  noex : ∀ b o, X.base.get? b = some o → b ∉ X.ex
  exfs : ∀ b ∈ X.ex, b ∉ X.fs
  funs : X.s₀.heap.FunFrames X.base X.outer
  frf : ∀ b ∈ X.fs, X.H₀ b = none

structure Inv (X : Cx) (pins : List (Addr × Obj)) (σ : List (Option V)) (H : Hp) (s : Shared) : Prop where
  ok : X.Ok
  os : s.os = X.s₀.os
  bare : AllBare s.gens
  base : Un X.fs X.ex X.H₀ H X.s₀.heap s.heap
  loc : ∃ m, s.heap.Ns X.env.locals m ∧ ∀ (i : Nat) (x : Str) (v : V), X.N[i]? = some x → σ[i]? = some (some v) → Vis X.env.scope x → ∃ u, RelV v u ∧ Look X.env s.heap m x u
  cell : ∀ x c, X.env.cells.lookup x = some c → ∃ v, s.heap.IsCell c v
  free : H X.env.locals = none
  freeC : ∀ x c, X.env.cells.lookup x = some c → H c = none
  pin : ∀ p ∈ X.pn ++ pins, s.heap.get? p.1 = some p.2 ∧ H p.1 = none ∧ p.1 ≠ X.env.locals ∧ p.1 ∉ X.fs ∧ ∀ v, p.2.data ≠ .cell v
  hok : HOk X.prog X.w H s.heap
  len : σ.length = X.N.length

section
variable {X : Cx} {pins : List (Addr × Obj)} {σ : List (Option V)} {H H' : Hp} {s : Shared} {h' : Heap}

theorem Cx.Ok.nofr (ok : X.Ok) {b : Addr} {o : Obj} (e : X.base.get? b = some o) : b ∉ X.fs := fun hb => by
  have := (ok.funs.mem hb).1
  rw [e] at this; cases this
theorem Inv.bs (I : Inv X pins σ H s) : ∀ b o, X.base.get? b = some o → s.heap.get? b = some o ∧ H b = none := fun b o e =>
  ⟨I.base.keep b o (I.ok.bs b o e).1 (I.ok.bs b o e).2 (I.ok.nofr e) (I.ok.noex b o e), I.base.free b o (I.ok.bs b o e).1 (I.ok.bs b o e).2 (I.ok.noex b o e)⟩
theorem Inv.bk (I : Inv X pins σ H s) : ∀ b o, X.base.get? b = some o → s.heap.get? b = some o := fun b o e => (I.bs b o e).1
theorem Inv.mod (I : Inv X pins σ H s) : Mod X.K X.mg X.base := I.ok.mod
theorem Inv.kIn (I : Inv X pins σ H s) : X.K.In s.heap := I.ok.mod.kin.keeps I.bk
theorem Inv.nolimit (I : Inv X pins σ H s) : s.heap.NoLimit := I.ok.mod.nolimit.keeps I.bk
theorem Inv.lt (I : Inv X pins σ H s) : X.env.locals < s.heap.objs.size := let ⟨_, hn, _⟩ := I.loc; hn.lt
theorem Inv.sz (I : Inv X pins σ H s) : X.s₀.heap.objs.size ≤ s.heap.objs.size := Nat.le_trans I.ok.above (Nat.le_of_lt I.lt)
theorem Inv.nofs (I : Inv X pins σ H s) {a : Addr} (h : s.heap.objs.size ≤ a) : a ∉ X.fs := fun hb => by
  obtain ⟨_, o, ho, _⟩ := I.ok.funs.mem hb
  exact absurd (Nat.lt_of_lt_of_le (Heap.lt_size ho) (Nat.le_trans I.sz h)) (Nat.lt_irrefl _)
theorem Inv.cne (I : Inv X pins σ H s) : ∀ x c, X.env.cells.lookup x = some c → c ≠ X.env.locals := fun x c e z => by
  obtain ⟨v, o, ho, hd⟩ := I.cell x c e
  obtain ⟨m, ⟨o', es, ep, ho', hd', _⟩, _⟩ := I.loc
  rw [z, ho'] at ho; cases ho; rw [hd'] at hd; cases hd
theorem Inv.funs (I : Inv X pins σ H s) : s.heap.FunFrames X.base X.outer := by
  have all : ∀ (l : List Env), (∀ b ∈ frs l, b ∈ X.fs) → X.s₀.heap.FunFrames X.base l → s.heap.FunFrames X.base l := by
    intro l
    induction l with
    | nil => intro _ _; trivial
    | cons env r ih =>
      intro hs hl
      obtain ⟨hk, ⟨L, o, hf, hn, ho, hd⟩, hr⟩ := hl
      have hL : L ∈ X.fs := hs L (by unfold frs; rw [List.filterMap_cons, hf]; exact List.mem_cons_self)
      obtain ⟨sl, e⟩ := I.base.slot L o ho (I.ok.frf L hL) hL fun z => I.ok.exfs L z hL
      exact ⟨hk, ⟨L, _, hf, hn, e, hd⟩, ih (fun b hb => hs b (by unfold frs; rw [List.filterMap_cons, hf]; exact List.mem_cons_of_mem _ hb)) hr⟩
  exact all X.outer (fun _ hb => hb) I.ok.funs

theorem Inv.stack (I : Inv X pins σ H s) : s.heap.FunFrames X.base X.stack := by
  rcases I.ok.stk with e | ⟨e, hf⟩
  · rw [e]; exact I.funs
  · rw [e]
    obtain ⟨m, hn, _⟩ := I.loc
    refine .cons (by rw [I.ok.kind]; decide) hf hn ?_ I.funs
    exact Heap.get?_none_of_le (Nat.le_trans I.ok.bsz I.ok.above)
theorem Inv.stkSub (I : Inv X pins σ H s) : ∀ b ∈ frs X.stack, b ∈ X.env.locals :: X.fs := fun b hb => by
  rcases I.ok.stk with e | ⟨e, hf⟩
  · rw [e] at hb; exact List.mem_cons_of_mem _ hb
  · rw [e] at hb
    unfold frs at hb
    rw [List.filterMap_cons, hf] at hb
    exact hb
theorem Inv.stkFree (I : Inv X pins σ H s) : ∀ b ∈ frs X.stack, H b = none := fun b hb => by
  rcases List.mem_cons.mp (I.stkSub b hb) with e | hb
  · rw [e]; exact I.free
  · obtain ⟨_, o, ho, _⟩ := I.ok.funs.mem hb
    exact I.base.free b o ho (I.ok.frf b hb) fun z => I.ok.exfs b z hb

theorem Inv.step {g' : Array GenState} {t' : Nat} {d' : Drawn} {ch : List Addr} (I : Inv X pins σ H s)
    (hch : ∀ b ∈ ch, (b ∈ X.ex ∨ X.s₀.heap.objs.size ≤ b) ∧ b ≠ X.env.locals ∧ (∀ x c, X.env.cells.lookup x = some c → c ≠ b) ∧ ∀ p ∈ X.pn ++ pins, p.1 ≠ b)
    (keep : ∀ b o, b ≠ X.env.locals → b ∉ X.fs → b ∉ ch → s.heap.get? b = some o → H b = none → h'.get? b = some o)
    (slot : ∀ b o, b ≠ X.env.locals → b ∈ X.fs → b ∉ ch → s.heap.get? b = some o → H b = none → ∃ sl, h'.get? b = some { o with slots := sl }) (free : ∀ b o, b ∉ ch → s.heap.get? b = some o → H b = none → H' b = none)
    (there : ∀ b o, b ∉ ch → s.heap.get? b = some o → ∃ o', h'.get? b = some o')
    (tups : ∀ b xs, H b = some (.tup xs) → H' b = some (.tup xs)) (frzs : ∀ b o u, H b = some (.frz o u) → H' b = some (.frz o u)) (tbls : ∀ b ps, H b = some (.tbl ps) → ∃ more, H' b = some (.tbl (ps ++ more)))
    (ns : ∀ m, s.heap.Ns X.env.locals m → h'.Ns X.env.locals m) (hok : HOk X.prog X.w H' h') (hg : AllBare g') :
    Inv X pins σ H' { s with heap := h', gens := g', drawn := d', toks := t' } := by
  have neL : ∀ b o, X.s₀.heap.get? b = some o → b ≠ X.env.locals := fun b o e => Nat.ne_of_lt (Nat.lt_of_lt_of_le (Heap.lt_size e) I.ok.above)
  have neC : ∀ b o, X.s₀.heap.get? b = some o → b ∉ X.ex → b ∉ ch := fun b o e hx hb => by
    rcases (hch b hb).1 with z | z
    · exact hx z
    · exact absurd (Nat.lt_of_lt_of_le (Heap.lt_size e) z) (Nat.lt_irrefl _)
  have cellK : ∀ x c, X.env.cells.lookup x = some c → ∀ v, s.heap.IsCell c v → h'.IsCell c v := fun x c e v ⟨o, ho, hd⟩ => by
    have nch : c ∉ ch := fun z => (hch c z).2.2.1 x c e rfl
    by_cases hc : c ∈ X.fs
    · obtain ⟨sl, q⟩ := slot c o (I.cne x c e) hc nch ho (I.freeC x c e)
      exact ⟨_, q, hd⟩
    · exact ⟨o, keep c o (I.cne x c e) hc nch ho (I.freeC x c e), hd⟩
  refine ⟨I.ok, I.os, hg, ⟨fun b o e n hb hx => ?_, fun b o e n hb hx => ?_, fun b o e n hx => ?_, fun b o e hx => ?_, fun b xs e => tups b xs (I.base.tups b xs e), fun b o xs e => frzs b o xs (I.base.frzs b o xs e), fun b ps e => ?_⟩, ?_, fun x c e => ?_, ?_, fun x c e => ?_, fun p hp => ?_, hok, I.len⟩
  · exact keep b o (neL b o e) hb (neC b o e hx) (I.base.keep b o e n hb hx) (I.base.free b o e n hx)
  · obtain ⟨sl, e1⟩ := I.base.slot b o e n hb hx
    obtain ⟨sl', e2⟩ := slot b _ (neL b o e) hb (neC b o e hx) e1 (I.base.free b o e n hx)
    exact ⟨sl', e2⟩
  · obtain ⟨o', e1⟩ := I.base.there b o e hx
    exact free b o' (neC b o e hx) e1 (I.base.free b o e n hx)
  · obtain ⟨o', e1⟩ := I.base.there b o e hx
    exact there b o' (neC b o e hx) e1
  · obtain ⟨m1, e1⟩ := I.base.tbls b ps e
    obtain ⟨m2, e2⟩ := tbls b _ e1
    exact ⟨m1 ++ m2, by rw [e2, Array.append_assoc]⟩
  · obtain ⟨m, hn, hl⟩ := I.loc
    refine ⟨m, ns m hn, fun i x v e1 e2 e3 => ?_⟩
    obtain ⟨u, r, l⟩ := hl i x v e1 e2 e3
    refine ⟨u, r, ?_⟩
    rcases l with l | ⟨k, c, e, z⟩
    · exact .inl l
    · exact .inr ⟨k, c, e, cellK x c e _ z⟩
  · obtain ⟨v, z⟩ := I.cell x c e
    exact ⟨v, cellK x c e v z⟩
  · obtain ⟨m, ⟨o, _, _, ho, _⟩, _⟩ := I.loc
    exact free _ o (fun z => (hch _ z).2.1 rfl) ho I.free
  · obtain ⟨v, o, ho, hd⟩ := I.cell x c e
    exact free c o (fun z => (hch c z).2.2.1 x c e rfl) ho (I.freeC x c e)
  · obtain ⟨e, n, ne, nf, d⟩ := I.pin p hp
    have nch : p.1 ∉ ch := fun z => (hch p.1 z).2.2.2 p hp rfl
    exact ⟨keep p.1 p.2 ne nf nch e n, free p.1 p.2 nch e n, ne, nf, d⟩
theorem Inv.un {t' : Nat} (I : Inv X pins σ H s) (u : Un X.fs [] H H' s.heap h') (hok : HOk X.prog X.w H' h') : Inv X pins σ H' { s with heap := h', toks := t' } := by
  obtain ⟨m, ⟨o, es, ep, ho, r⟩, _⟩ := id I.loc
  obtain ⟨sl, hL⟩ := u.any ho I.free (by simp)
  exact I.step (g' := s.gens) (d' := s.drawn) (ch := []) (fun _ z => nomatch z) (fun b o _ hb _ e n => u.keep b o e n hb (by simp)) (fun b o _ hb _ e n => u.slot b o e n hb (by simp)) (fun b o _ e n => u.free b o e n (by simp)) (fun b o _ e => u.there b o e (by simp)) u.tups u.frzs u.tbls (fun m' hm => by
    obtain ⟨o', es', ep', ho', r'⟩ := hm
    rw [ho] at ho'; cases ho'
    exact ⟨_, es', ep', hL, r'⟩) hok I.bare
theorem Inv.call {g' : Array GenState} {t' : Nat} {d' : Drawn} {ch : List Addr} (I : Inv X pins σ H s) (u : Un (frs X.stack) ch H H' s.heap h') (hok : HOk X.prog X.w H' h') (hg : AllBare g')
    (hch : ∀ b ∈ ch, (b ∈ X.ex ∨ X.s₀.heap.objs.size ≤ b) ∧ b ≠ X.env.locals ∧ (∀ x c, X.env.cells.lookup x = some c → c ≠ b) ∧ ∀ p ∈ X.pn ++ pins, p.1 ≠ b) :
    Inv X pins σ H' { s with heap := h', gens := g', drawn := d', toks := t' } := by
  obtain ⟨m, ⟨o, es, ep, ho, r⟩, _⟩ := id I.loc
  obtain ⟨sl, hL⟩ := u.any ho I.free fun z => (hch _ z).2.1 rfl
  exact I.step (ch := ch) hch (fun b o hL hb hc e n => u.keep b o e n (fun z => (List.mem_cons.mp (I.stkSub b z)).elim hL hb) hc) (fun b o _ _ hc e n => u.any e n hc) (fun b o hc e n => u.free b o e n hc) (fun b o hc e => u.there b o e hc) u.tups u.frzs u.tbls (fun m' hm => by
    obtain ⟨o', es', ep', ho', r'⟩ := hm
    rw [ho] at ho'; cases ho'
    exact ⟨_, es', ep', hL, r'⟩) hok hg
theorem Inv.turned {t' : Nat} {it : Addr} (I : Inv X pins σ H s) (k : ∀ b o, b ≠ it → s.heap.get? b = some o → h'.get? b = some o) (hn : H it = none) (hL : it ≠ X.env.locals)
    (h1 : it ∈ X.ex ∨ X.s₀.heap.objs.size ≤ it) (h2 : ∀ x c, X.env.cells.lookup x = some c → c ≠ it) (h3 : ∀ p ∈ X.pn ++ pins, p.1 ≠ it) : Inv X pins σ H { s with heap := h', toks := t' } := by
  have nit : ∀ b u, H b = some u → b ≠ it := fun b u e z => by rw [z, hn] at e; cases e
  refine I.step (g' := s.gens) (d' := s.drawn) (ch := [it]) (fun b hb => ?_) (fun b o _ _ hc e _ => k b o (fun z => hc (by simp [z])) e) (fun b o _ _ hc e _ => ⟨o.slots, k b o (fun z => hc (by simp [z])) e⟩) (fun _ _ _ _ n => n)
    (fun b o hc e => ⟨o, k b o (fun z => hc (by simp [z])) e⟩) (fun _ _ e => e) (fun _ _ _ e => e) (fun b ps e => ⟨#[], by rw [e]; simp⟩) (fun m hm => ?_) (fun b u e => ?_) I.bare
  · have e : b = it := by simpa using hb
    subst e
    exact ⟨h1, hL, h2, h3⟩
  · obtain ⟨o, es, ep, ho, r⟩ := hm
    exact ⟨o, es, ep, k _ o (Ne.symm hL) ho, r⟩
  · refine (I.hok b u e).stay (fun c v hc q => k c v ?_ q) (fun _ q => q) fun _ _ q => q
    rcases hc with z | z
    · rw [z]; exact nit b u e
    · exact nit c _ z
theorem Inv.tok (I : Inv X pins σ H s) (t : Nat) : Inv X pins σ H { s with toks := t } := I.un (h' := s.heap) (t' := t) Un.refl I.hok
theorem Inv.kept {t' : Nat} (I : Inv X pins σ H s) (k : ∀ b u, s.heap.get? b = some u → h'.get? b = some u) : Inv X pins σ H { s with heap := h', toks := t' } := I.un (Un.kept k) (I.hok.kept k)
theorem Inv.laid {a : Addr} {o : HO} {t' : Nat} (I : Inv X pins σ H s) (k : ∀ b u, s.heap.get? b = some u → h'.get? b = some u) (hp : s.heap.objs.size ≤ a) (new : ObjOk X.prog X.w (upd H a o) h' a o) :
    Inv X pins σ (upd H a o) { s with heap := h', toks := t' } := I.un (Un.laid k hp (I.hok.fresh hp)) (I.hok.laid k hp new)
theorem Inv.write {x e : Addr} {o : HO} {t' : Nat} (I : Inv X pins σ H s) (mu : Mut (H x)) (he : e = x ∨ H e = some (.own x)) (k : ∀ b u, b ≠ e → s.heap.get? b = some u → h'.get? b = some u) (heo : ∃ u, h'.get? e = some u)
    (new : ObjOk X.prog X.w (upd H x o) h' x o) : Inv X pins σ (upd H x o) { s with heap := h', toks := t' } := I.un (Un.write mu he k heo) (I.hok.write mu he k heo new)
theorem Inv.pins_of {pins' : List (Addr × Obj)} (I : Inv X pins σ H s) (h : ∀ p ∈ pins', s.heap.get? p.1 = some p.2 ∧ H p.1 = none ∧ p.1 ≠ X.env.locals ∧ p.1 ∉ X.fs ∧ ∀ v, p.2.data ≠ .cell v) : Inv X pins' σ H s :=
  ⟨I.ok, I.os, I.bare, I.base, I.loc, I.cell, I.free, I.freeC, fun p hp => (List.mem_append.mp hp).elim (fun z => I.pin p (List.mem_append_left _ z)) (h p), I.hok, I.len⟩

theorem nodup_ix {N : List Str} (hN : N.Nodup) {i j : Nat} {x : Str} (a : N[i]? = some x) (b : N[j]? = some x) : i = j := by
  obtain ⟨h1, e1⟩ := List.getElem?_eq_some_iff.mp a
  obtain ⟨h2, e2⟩ := List.getElem?_eq_some_iff.mp b
  exact (List.getElem_inj hN).mp (e1.trans e2.symm)

theorem store_ok2 {M : Model} {A : Around} {E : Value → Shared → Prop} {i : Nat} {x : Str} {v : V} {u : Value} {Q : Unit → Shared → Prop} (I : Inv X pins σ H s) (hN : X.N.Nodup) (hi : X.N[i]? = some x) (hx : Loc X.env.scope x) (r : RelV v u)
    (h : ∀ s', Inv X pins (σ.set i (some v)) H s' → (∃ a, Heap.SameBut a s.heap s'.heap ∧ (a = X.env.locals ∨ X.env.cells.lookup x = some a)) → Q () s') (hf : X.fn x = true ∨ X.env.scope.names.lookup x = some .local := by first | exact .inl rfl | exact .inr rfl | assumption) : wpAny M A (storeName X.env x u) Q E s := by
  obtain ⟨m, hn, hl⟩ := id I.loc
  have hcls : (X.env.scope.kind == .class || (X.env.scope.kind == .module && X.env.locals != X.env.globals)) = false := by rw [I.ok.kind]; rfl
  have hiσ : i < σ.length := by rw [I.len]; exact (List.getElem?_eq_some_iff.mp hi).1
  have cne := I.cne
  have tracked : ∀ {a : Addr} {h' : Heap}, (∃ o, s.heap.get? a = some o ∧ H a = none) → Heap.SameBut a s.heap h' → HOk X.prog X.w H h' := fun {a h'} ha hs b ob e => by
    obtain ⟨_, _, hfree⟩ := ha
    refine (I.hok b ob e).stay (fun c w' hc q => (hs.2 c ?_).trans q) (fun _ q => q) fun _ _ q => q
    rintro rfl
    rcases hc with rfl | hc
    · rw [hfree] at e; cases e
    · rw [hfree] at hc; cases hc
  rcases hx with hk | hk
  · refine wpAny_storeName_local hk hn (fun h' hn' hs => ?_) hcls
    obtain ⟨oL, _, _, hoL, _⟩ := id hn
    refine h _ ⟨I.ok, I.os, I.bare, ⟨fun b o e n hb hx => ?_, fun b o e n hb hx => ?_, I.base.free, fun b o e hx => ?_, I.base.tups, I.base.frzs, I.base.tbls⟩, ⟨_, hn', fun j y v' e1 e2 e3 => ?_⟩, fun y c e => ?_, I.free, I.freeC, fun p hp => ?_, tracked ⟨oL, hoL, I.free⟩ hs, by simpa using I.len⟩ ⟨_, hs, .inl rfl⟩
    · exact (hs.2 b (Nat.ne_of_lt (Nat.lt_of_lt_of_le (Heap.lt_size e) I.ok.above))).trans (I.base.keep b o e n hb hx)
    · obtain ⟨sl, e1⟩ := I.base.slot b o e n hb hx
      exact ⟨sl, (hs.2 b (Nat.ne_of_lt (Nat.lt_of_lt_of_le (Heap.lt_size e) I.ok.above))).trans e1⟩
    · obtain ⟨o', e1⟩ := I.base.there b o e hx
      exact ⟨o', (hs.2 b (Nat.ne_of_lt (Nat.lt_of_lt_of_le (Heap.lt_size e) I.ok.above))).trans e1⟩
    · by_cases hj : j = i
      · subst hj
        rw [hi] at e1; cases e1
        rw [List.getElem?_set_self hiσ] at e2
        cases e2
        exact ⟨u, r, .inl ⟨hk, by simp⟩⟩
      · rw [List.getElem?_set_ne (Ne.symm hj)] at e2
        obtain ⟨u', r', q⟩ := hl j y v' e1 e2 e3
        refine ⟨u', r', ?_⟩
        rcases q with ⟨k, e⟩ | ⟨k, c, e, z⟩
        · refine .inl ⟨k, ?_⟩
          have : y ≠ x := fun e => hj (nodup_ix hN e1 (e ▸ hi))
          simp [this, e]
        · exact .inr ⟨k, c, e, z.sameBut hs (cne y c e)⟩
    · obtain ⟨w', z⟩ := I.cell y c e
      exact ⟨w', z.sameBut hs (cne y c e)⟩
    · obtain ⟨e, n, ne, nf, d⟩ := I.pin p hp
      exact ⟨(hs.2 p.1 ne).trans e, n, ne, nf, d⟩
  · have hfn : X.fn x = true := by
      rcases hf with z | z
      · exact z
      · rw [z] at hk; cases hk
    obtain ⟨c, hc⟩ := I.ok.has x (.inl hk)
    obtain ⟨w', z⟩ := I.cell x c hc
    refine wpAny_storeName_cell I.ok.kind hk hc z (fun h' hc' hs => ?_)
    obtain ⟨oc, hoc, hocd⟩ := id z
    refine h { s with heap := h' } ⟨I.ok, I.os, I.bare, ⟨fun b o e n hb hx => ?_, fun b o e n hb hx => ?_, I.base.free, fun b o e hx => ?_, I.base.tups, I.base.frzs, I.base.tbls⟩, ⟨m, hn.sameBut hs (Ne.symm (cne x c hc)), fun j y v' e1 e2 e3 => ?_⟩, fun y c' e => ?_, I.free, I.freeC, fun p hp => ?_, tracked ⟨oc, hoc, I.freeC x c hc⟩ hs, by simpa using I.len⟩ ⟨c, hs, .inr hc⟩
    · exact (hs.2 b (Nat.ne_of_lt (Nat.lt_of_lt_of_le (Heap.lt_size e) (I.ok.cab x c hfn hc)))).trans (I.base.keep b o e n hb hx)
    · obtain ⟨sl, e1⟩ := I.base.slot b o e n hb hx
      exact ⟨sl, (hs.2 b (Nat.ne_of_lt (Nat.lt_of_lt_of_le (Heap.lt_size e) (I.ok.cab x c hfn hc)))).trans e1⟩
    · obtain ⟨o', e1⟩ := I.base.there b o e hx
      exact ⟨o', (hs.2 b (Nat.ne_of_lt (Nat.lt_of_lt_of_le (Heap.lt_size e) (I.ok.cab x c hfn hc)))).trans e1⟩
    · by_cases hj : j = i
      · subst hj
        rw [hi] at e1; cases e1
        rw [List.getElem?_set_self hiσ] at e2
        cases e2
        exact ⟨u, r, .inr ⟨.inl hk, c, hc, hc'⟩⟩
      · rw [List.getElem?_set_ne (Ne.symm hj)] at e2
        obtain ⟨u', r', q⟩ := hl j y v' e1 e2 e3
        refine ⟨u', r', ?_⟩
        rcases q with q | ⟨k, c', e, z'⟩
        · exact .inl q
        · refine .inr ⟨k, c', e, z'.sameBut hs ?_⟩
          rintro rfl
          exact hj (nodup_ix hN e1 (I.ok.inj _ _ _ e hc ▸ hi))
    · by_cases hcc : c' = c
      · subst hcc; exact ⟨_, hc'⟩
      · obtain ⟨w2, z2⟩ := I.cell y c' e
        exact ⟨w2, z2.sameBut hs hcc⟩
    · obtain ⟨e, n, ne, nf, d⟩ := I.pin p hp
      refine ⟨(hs.2 p.1 ?_).trans e, n, ne, nf, d⟩
      intro q
      rw [q, hoc] at e
      have q' : oc = p.2 := Option.some.inj e
      exact d w' (by rw [← q']; exact hocd)
theorem store_ok {M : Model} {A : Around} {E : Value → Shared → Prop} {i : Nat} {x : Str} {v : V} {u : Value} {Q : Unit → Shared → Prop} (I : Inv X pins σ H s) (hN : X.N.Nodup) (hi : X.N[i]? = some x) (hx : Loc X.env.scope x) (r : RelV v u)
    (h : ∀ s', Inv X pins (σ.set i (some v)) H s' → Q () s') (hf : X.fn x = true ∨ X.env.scope.names.lookup x = some .local := by first | exact .inl rfl | exact .inr rfl | assumption) : wpAny M A (storeName X.env x u) Q E s :=
  store_ok2 I hN hi hx r (fun s' I' _ => h s' I') hf
theorem Inv.call' {s' : Shared} {ch : List Addr} (I : Inv X pins σ H s) (ho : s'.os = s.os) (u : Un (frs X.stack) ch H H' s.heap s'.heap) (hok : HOk X.prog X.w H' s'.heap) (hg : AllBare s'.gens)
    (hch : ∀ b ∈ ch, (b ∈ X.ex ∨ X.s₀.heap.objs.size ≤ b) ∧ b ≠ X.env.locals ∧ (∀ x c, X.env.cells.lookup x = some c → c ≠ b) ∧ ∀ p ∈ X.pn ++ pins, p.1 ≠ b) : Inv X pins σ H' s' := by
  obtain ⟨h', g', d', t', o'⟩ := s'
  have e : o' = s.os := ho
  subst e
  exact I.call (g' := g') (t' := t') (d' := d') u hok hg hch
end

/-- an exception: its class, its own dict's address (where it has one), the abstract heap behind it -/
abbrev XK := Value → Option Addr → Hp → Prop
abbrev St := List (Option V)
abbrev VK := V → Hp → Prop
abbrev TE := St → Hp → VK → Prop
abbrev TT := St → Hp → (Bool → Hp → Prop) → Prop
abbrev TA := St → Hp → (List V → Hp → Prop) → Prop
structure Ends where
  nx : St → Hp → Prop
  rt : VK
  bk : St → Hp → Prop := fun _ _ => False
  ct : St → Hp → Prop := fun _ _ => False
abbrev TS := Ends → St → Hp → Prop

def EP (X : Cx) (pins : List (Addr × Obj)) (σ : St) (Q : VK) (u : Value) (s' : Shared) : Prop := ∃ v H', Inv X pins σ H' s' ∧ RelV v u ∧ Q v H'
def TP (X : Cx) (pins : List (Addr × Obj)) (σ : St) (Q : Bool → Hp → Prop) (b : Bool) (s' : Shared) : Prop := ∃ H', Inv X pins σ H' s' ∧ Q b H'
def AP (X : Cx) (pins : List (Addr × Obj)) (σ : St) (Q : List V → Hp → Prop) (us : List Value) (s' : Shared) : Prop := ∃ vs H', Inv X pins σ H' s' ∧ Vals vs us ∧ Q vs H'
def SP (X : Cx) (pins : List (Addr × Obj)) (D : Ends) (f : Flow) (s' : Shared) : Prop :=
  match f with
  | .next => ∃ σ' H', Inv X pins σ' H' s' ∧ D.nx σ' H'
  | .brk => ∃ σ' H', Inv X pins σ' H' s' ∧ D.bk σ' H'
  | .cont => ∃ σ' H', Inv X pins σ' H' s' ∧ D.ct σ' H'
  | .ret u => ∃ v σ' H', Inv X pins σ' H' s' ∧ RelV v u ∧ D.rt v H'

def PE (X : Cx) (e : Expr) (t : TE) : Prop :=
  ∀ (pins : List (Addr × Obj)) (s : Shared) (σ : St) (H : Hp) (Q : VK), Inv X pins σ H s → t σ H Q → wpAny (model X.prog X.w) X.A (eval e X.env) (EP X pins σ Q) X.xe s
def PT (X : Cx) (e : Expr) (t : TT) : Prop :=
  ∀ (pins : List (Addr × Obj)) (s : Shared) (σ : St) (H : Hp) (Q : Bool → Hp → Prop), Inv X pins σ H s → t σ H Q → wpAny (model X.prog X.w) X.A (isTrue e X.env (eval e X.env)) (TP X pins σ Q) X.xe s
def PW (X : Cx) (e : Expr) (t : TT) : Prop :=
  ∀ (whole : Sem Value) (pins : List (Addr × Obj)) (s : Shared) (σ : St) (H : Hp) (Q : Bool → Hp → Prop), Inv X pins σ H s → t σ H Q → wpAny (model X.prog X.w) X.A (isTrue e X.env whole) (TP X pins σ Q) X.xe s
theorem PW.pt {X : Cx} {e : Expr} {t : TT} (h : PW X e t) : PT X e t := h _
def PA (X : Cx) (es : List Expr) (t : TA) : Prop :=
  ∀ (pos : Pos) (pins : List (Addr × Obj)) (s : Shared) (σ : St) (H : Hp) (Q : List V → Hp → Prop), Inv X pins σ H s → t σ H Q → wpAny (model X.prog X.w) X.A (spliced (backTo pos (starEach es X.env))) (AP X pins σ Q) X.xe s
def PS (X : Cx) (st : Stmt) (t : TS) : Prop :=
  ∀ (pins : List (Addr × Obj)) (s : Shared) (σ : St) (H : Hp) (D : Ends), Inv X pins σ H s → t D σ H → wpAny (model X.prog X.w) X.A (exec st X.env) (SP X pins D) X.xe s
def PSs (X : Cx) (st : List Stmt) (t : TS) : Prop :=
  ∀ (pins : List (Addr × Obj)) (s : Shared) (σ : St) (H : Hp) (D : Ends), Inv X pins σ H s → t D σ H → wpAny (model X.prog X.w) X.A (execs st X.env) (SP X pins D) X.xe s
theorem thn {α : Type} {t : Sem α} {Q Q' : α → Shared → Prop} {M : Model} {A : Around} {E : Value → Shared → Prop} {s : Shared} (h : wpAny M A t Q E s) (hQ : ∀ a s, Q a s → Q' a s) : wpAny M A t Q' E s := wpAny_mono h hQ fun _ _ x => x
end L2

namespace L2
open PySem PySem.Spec PyProof.Rows
section
variable {X : Cx}

theorem bin {a b : Expr} {ta tb : TE} (ha : PE X a ta) (hb : PE X b tb) {pins : List (Addr × Obj)} {s : Shared} {σ : St} {H : Hp} {R : V → V → Hp → Prop} (I : Inv X pins σ H s) (h : ta σ H fun x H1 => tb σ H1 fun y H2 => R x y H2)
    {α : Type} {Q : α → Shared → Prop} {f : Value → Value → Sem α}
    (hf : ∀ v u s2 x y H2, Inv X pins σ H2 s2 → RelV x v → RelV y u → R x y H2 → wpAny (model X.prog X.w) X.A (f v u) Q X.xe s2) :
    wpAny (model X.prog X.w) X.A (eval a X.env) (fun v s₁ => wpAny (model X.prog X.w) X.A (eval b X.env) (fun u s₂ => wpAny (model X.prog X.w) X.A (f v u) Q X.xe s₂) X.xe s₁) X.xe s := by
  refine thn (ha pins s σ H _ I h) fun v s1 ⟨x, H1, I1, r1, q1⟩ => ?_
  refine thn (hb pins s1 σ H1 _ I1 q1) fun u s2 ⟨y, H2, I2, r2, q2⟩ => ?_
  exact hf v u s2 x y H2 I2 r1 r2 q2

def tVar (i : Nat) : TE := fun σ H Q => ∃ v, σ[i]? = some (some v) ∧ Q v H
def tC (v : V) : TE := fun _ H Q => Q v H
theorem pe_var {i : Nat} {x : Str} {pos : Pos} (hN : X.N[i]? = some x) (hv : Vis X.env.scope x) (hd : (x == ("__debug__" : Str)) = false := by decide) (hcd : (x == ("__classdict__" : Str)) = false := by decide) : PE X (.Name x pos) (tVar i) := by
  intro pins s σ H Q I h
  obtain ⟨v, e, h⟩ := h
  obtain ⟨m, hn, hl⟩ := I.loc
  obtain ⟨u, r, l⟩ := hl i x v hN e hv
  have fin : EP X pins σ Q u s := ⟨v, H, I, r, h⟩
  rcases l with ⟨hk, hm⟩ | ⟨hk, c, hc, hcell⟩
  · exact wpAny_Name (wpAny_loadName_local I.ok.kind hk hn hm fin) hd
  · rcases hk with hk | hk
    · exact wpAny_Name (wpAny_loadName_cell I.ok.kind hk hc hcell fin) hd
    · exact wpAny_Name (wpAny_loadName_free I.ok.kind hk hc hcell fin hcd) hd
theorem pe_int {i j pos} : PE X (.Constant (.int i) j pos) (tC (.int i)) := fun _ _ _ H _ I h => wpAny_Constant_int ⟨.int i, H, I.tok _, ⟨_, rfl⟩, h⟩
theorem pe_bl {b j pos} : PE X (.Constant (.bool b) j pos) (tC (.bl b)) := fun _ _ _ H _ I h => Constant_bool ⟨.bl b, H, I, rfl, h⟩
theorem pe_non {j pos} : PE X (.Constant .none j pos) (tC .non) := fun _ _ _ H _ I h => Constant_none ⟨.non, H, I, rfl, h⟩
theorem pe_str {x j pos} : PE X (.Constant (.str x) j pos) (tC (.str x)) := fun _ _ _ H _ I h => Calls.Constant_str ⟨.str x, H, I.tok _, ⟨_, rfl⟩, h⟩

def Gl (X : Cx) (x : Str) : Prop := X.env.kindOf x = some .globalImplicit
theorem ld_glob {E : Value → Shared → Prop} {pins : List (Addr × Obj)} {s : Shared} {σ : St} {H : Hp} {x : Str} {u : Value} {pos : Pos} {Q : Value → Shared → Prop} (I : Inv X pins σ H s) (hg : Gl X x) (hm : X.mg x = some u) (h : Q u s)
    (hd : (x == ("__debug__" : Str)) = false := by decide) : wpAny (model X.prog X.w) X.A (eval (.Name x pos) X.env) Q E s :=
  Calls.Name_function_global I.ok.kind hg (Calls.loadGlobal_global (by rw [I.ok.glob]; exact I.mod.glob.keeps I.bk) hm h) hd
theorem ld_blt {E : Value → Shared → Prop} {pins : List (Addr × Obj)} {s : Shared} {σ : St} {H : Hp} {x : Str} {u : Value} {pos : Pos} {Q : Value → Shared → Prop} (I : Inv X pins σ H s) (hg : Gl X x) (hm : X.mg x = none) (hv : bootBuiltins x = some u) (h : Q u s)
    (hn : x ≠ "__name__" := by decide) (hd : (x == ("__debug__" : Str)) = false := by decide) : wpAny (model X.prog X.w) X.A (eval (.Name x pos) X.env) Q E s := by
  obtain ⟨mb, h1, h2⟩ := I.mod.blt
  exact Calls.Name_function_global I.ok.kind hg (Calls.loadGlobal_builtin (by rw [I.ok.glob]; exact I.mod.glob.keeps I.bk) hm (by rw [I.ok.blt]; exact h1.keeps I.bk) ((h2 x hn).trans hv) h) hd
theorem pe_glob {x : Str} {v : V} {u : Value} {pos : Pos} (hg : Gl X x) (hm : X.mg x = some u) (r : RelV v u) (hd : (x == ("__debug__" : Str)) = false := by decide) : PE X (.Name x pos) (tC v) :=
  fun _ _ _ H _ I h => ld_glob I hg hm ⟨v, H, I, r, h⟩ hd
variable {a b : Expr} {ta tb : TE} {pos : Pos}
def PC (X : Cx) (op : CmpOp) (a b : Expr) (t : TE) : Prop :=
  ∀ (pins : List (Addr × Obj)) (s : Shared) (σ : St) (H : Hp) (Q : VK), Inv X pins σ H s → t σ H Q →
    wpAny (model X.prog X.w) X.A (eval a X.env) (fun v s₁ => wpAny (model X.prog X.w) X.A (eval b X.env) (fun u s₂ => wpAny (model X.prog X.w) X.A (compareOp op v u) (EP X pins σ Q) X.xe s₂) X.xe s₁) X.xe s
theorem nobehind (b : Expr) {op : CmpOp} (h : op ≠ .In) (h2 : op ≠ .NotIn) : behindInMarks op b = false := by
  have e1 : (op == CmpOp.In) = false := by cases op <;> first | rfl | exact absurd rfl h
  have e2 : (op == CmpOp.NotIn) = false := by cases op <;> first | rfl | exact absurd rfl h2
  cases b <;> simp [behindInMarks, e1, e2]
variable {tA tB' : TT} {rest : List Expr}
def tAnd (t u : TT) : TT := fun σ H Q => t σ H fun c H1 => if c = true then u σ H1 Q else Q false H1
def tOr (t u : TT) : TT := fun σ H Q => t σ H fun c H1 => if c = true then Q true H1 else u σ H1 Q
def tNot (t : TT) : TT := fun σ H Q => t σ H fun c H1 => Q (!c) H1
theorem pw_and1 (ha : PT X a tA) : PW X (.BoolOp .And [a] pos) tA := by
  intro wh pins s σ H Q I h
  refine isTrue_and (thn (ha pins s σ H Q I h) fun c s1 e => ?_)
  cases c with
  | true => exact isTrue_and_nil e
  | false => exact e
theorem pw_or1 (ha : PT X a tA) : PW X (.BoolOp .Or [a] pos) tA := by
  intro wh pins s σ H Q I h
  refine isTrue_or (thn (ha pins s σ H Q I h) fun c s1 e => ?_)
  cases c with
  | false => exact isTrue_or_nil e
  | true => exact e
theorem pw_and (ha : PT X a tA) (hb : PW X (.BoolOp .And (b :: rest) pos) tB') : PW X (.BoolOp .And (a :: b :: rest) pos) (tAnd tA tB') := by
  intro wh pins s σ H Q I h
  refine isTrue_and (thn (ha pins s σ H _ I h) fun c s1 ⟨H1, I1, q1⟩ => ?_)
  cases c with
  | true => exact hb wh pins s1 σ H1 Q I1 q1
  | false => exact ⟨H1, I1, q1⟩
theorem pw_or (ha : PT X a tA) (hb : PW X (.BoolOp .Or (b :: rest) pos) tB') : PW X (.BoolOp .Or (a :: b :: rest) pos) (tOr tA tB') := by
  intro wh pins s σ H Q I h
  refine isTrue_or (thn (ha pins s σ H _ I h) fun c s1 ⟨H1, I1, q1⟩ => ?_)
  cases c with
  | true => exact ⟨H1, I1, q1⟩
  | false => exact hb wh pins s1 σ H1 Q I1 q1
theorem pt_not (ha : PT X a tA) : PT X (.UnaryOp .Not a pos) (tNot tA) := by
  intro pins s σ H Q I h
  exact isTrue_not (ha pins s σ H (fun c H1 => Q (!c) H1) I h)
theorem pe_one {op} {t : TE} (h : PE X a t) : PE X (.BoolOp op [a] pos) t := fun pins s σ H Q I hw => BoolOp_one (h pins s σ H Q I hw)
def tIf (t : TT) (ta tb : TE) : TE := fun σ H Q => t σ H fun c H1 => if c = true then ta σ H1 Q else tb σ H1 Q
theorem pe_ifExp {c : Expr} (hc : PT X c tA) (ha : PE X a ta) (hb : PE X b tb) : PE X (.IfExp c a b pos) (tIf tA ta tb) := by
  intro pins s σ H Q I h
  refine wpAny_IfExp (thn (hc pins s σ H _ I h) fun d s1 ⟨H1, I1, q1⟩ => ?_)
  cases d with
  | true => exact ha pins s1 σ H1 Q I1 q1
  | false => exact hb pins s1 σ H1 Q I1 q1
end
end L2

namespace L2
open PySem PySem.Spec PyProof.Rows

def SqL (K : PySem.W.Frag) (H : Hp) (a : Addr) (xs : List V) : Prop :=
  Rd H a (.lst xs) ∨
    ∃ (o : Obj) (its : Array Value) (n : Nat), K.lookup a = some o ∧ o.cls = .type "list" ∧ o.dict = none ∧ o.data = .seq its n ∧ its.size ≤ sizeLine ∧ Vals xs its.toList
def SqT (K : PySem.W.Frag) (H : Hp) (a : Addr) (xs : List V) : Prop :=
  Rd H a (.tup xs) ∨
    ∃ (o : Obj) (its : Array Value) (n : Nat), K.lookup a = some o ∧ o.cls = .type "tuple" ∧ o.data = .seq its n ∧ its.size ≤ sizeLine ∧ Vals xs its.toList
def absV : Value → Option V
  | .none => some .non
  | .bool b => some (.bl b)
  | .int i _ => some (.int i)
  | .str x _ => some (.str x)
  | .bytes b _ => some (.byt b)
  | .float b _ => some (.flt b)
  | .ref a => some (.ref a)
  | .type n => some (.ty n)
  | _ => none
theorem RelV.abs {x : V} {u : Value} (r : RelV x u) : absV u = some x := by
  cases x with
  | non => cases r; rfl
  | bl _ => cases r; rfl
  | int _ => obtain ⟨t, rfl⟩ := r; rfl
  | str _ => obtain ⟨t, rfl⟩ := r; rfl
  | byt _ => obtain ⟨t, rfl⟩ := r; rfl
  | flt _ => obtain ⟨t, rfl⟩ := r; rfl
  | ref _ => cases r; rfl
  | ty _ => cases r; rfl
theorem RelV.inj {x y : V} {u : Value} (r : RelV x u) (q : RelV y u) : x = y := Option.some.inj (r.abs.symm.trans q.abs)
theorem Vals.inj : ∀ {xs ys : List V} {us : List Value}, Vals xs us → Vals ys us → xs = ys
  | _, _, _, .nil, .nil => rfl
  | _, _, _, .cons r t, .cons r' t' => by rw [r.inj r', Vals.inj t t']
section
variable {X : Cx} {pins : List (Addr × Obj)} {σ : St} {H : Hp} {s : Shared} {a : Addr} {xs ys : List V}
theorem Inv.list (I : Inv X pins σ H s) (h : SqL X.K H a xs) : ∃ its : List Value, Vals xs its ∧ PlainL s.heap a its.toArray ∧ xs.length ≤ sizeLine := by
  rcases h with h | ⟨o, its, n, hk, hc, hd, hs, hz, r⟩
  · obtain ⟨z, its, n, r, e⟩ := h.ok I.hok
    exact ⟨its, r, ⟨_, n, e, rfl, rfl, rfl⟩, z⟩
  · refine ⟨its.toList, r, ⟨o, n, I.kIn a o hk, hc, hd, by simpa using hs⟩, ?_⟩
    have e := r.length
    simp only [Array.length_toList] at e
    omega
theorem Inv.tuple (I : Inv X pins σ H s) (h : SqT X.K H a xs) : ∃ its : List Value, Vals xs its ∧ IsTup s.heap a its.toArray ∧ xs.length ≤ sizeLine := by
  rcases h with h | ⟨o, its, n, hk, hc, hs, hz, r⟩
  · obtain ⟨z, its, r, p⟩ := h.ok I.hok
    exact ⟨its, r, p, z⟩
  · refine ⟨its.toList, r, ⟨o, I.kIn a o hk, hc, n, by simpa using hs⟩, ?_⟩
    have e := r.length
    simp only [Array.length_toList] at e
    omega
theorem Inv.list_inj (I : Inv X pins σ H s) (h : SqL X.K H a xs) (h' : SqL X.K H a ys) : xs = ys := by
  obtain ⟨its, r, ⟨o, n, e, _, _, d⟩, _⟩ := I.list h
  obtain ⟨its', r', ⟨o', n', e', _, _, d'⟩, _⟩ := I.list h'
  rw [e] at e'; cases e'
  rw [d] at d'
  injection d' with d1 _
  have : its = its' := by simpa using congrArg Array.toList d1
  subst this
  exact r.inj r'
theorem Inv.tuple_inj (I : Inv X pins σ H s) (h : SqT X.K H a xs) (h' : SqT X.K H a ys) : xs = ys := by
  obtain ⟨its, r, ⟨o, e, _, n, d⟩, _⟩ := I.tuple h
  obtain ⟨its', r', ⟨o', e', _, n', d'⟩, _⟩ := I.tuple h'
  rw [e] at e'; cases e'
  rw [d] at d'
  injection d' with d1 _
  have : its = its' := by simpa using congrArg Array.toList d1
  subst this
  exact r.inj r'
end

abbrev Cx.wish (X : Cx) (E : Value → Shared → Prop) : Cx := { X with xe := E }
section
variable {X : Cx} {pins : List (Addr × Obj)} {σ : St} {H : Hp} {s : Shared} {E : Value → Shared → Prop}
end

section
variable {X : Cx} {st : Stmt} {rest : List Stmt} {t u : TS} {e : Expr} {te : TE} {pos : Pos}
def tNext : TS := fun D σ H => D.nx σ H
def tSeq (t u : TS) : TS := fun D σ H => t { D with nx := u D } σ H
theorem pss_nil : PSs X [] tNext := fun _ _ σ H _ I h => wpAny_execs_nil ⟨σ, H, I, h⟩
theorem pss_cons (h1 : PS X st t) (h2 : PSs X rest u) : PSs X (st :: rest) (tSeq t u) := by
  intro pins s σ H D I h
  refine wpAny_execs_cons (thn (h1 pins s σ H { D with nx := u D } I h) fun f s1 q => ?_)
  cases f with
  | next =>
    obtain ⟨σ', H', I', q⟩ := q
    exact h2 pins s1 σ' H' D I' q
  | ret v => exact q
  | brk => exact q
  | cont => exact q
theorem pss_one (h1 : PS X st t) : PSs X [st] t := by
  intro pins s σ H D I h
  refine wpAny_execs_cons (thn (h1 pins s σ H D I h) fun f s1 q => ?_)
  cases f with
  | next => exact wpAny_execs_nil q
  | ret v => exact q
  | brk => exact q
  | cont => exact q
theorem Inv.quiet {pins : List (Addr × Obj)} {σ : St} {H : Hp} {s : Shared} (I : Inv X pins σ H s) : interactive X.env = false := by simp [interactive, I.ok.kind]
def tDrop (te : TE) : TS := fun D σ H => te σ H fun _ H1 => D.nx σ H1
theorem ps_expr (he : PE X e te) (hs : swapsWith e none pos.line X.env = pure false := by rfl) : PS X (.Expr e pos) (tDrop te) := by
  intro pins s σ H D I h
  exact wpAny_Expr_any (thn (he pins s σ H _ I h) fun v s1 ⟨x, H1, I1, r1, q1⟩ => ⟨σ, H1, I1, q1⟩) I.quiet hs
def tRet (te : TE) : TS := fun D σ H => te σ H D.rt
theorem ps_ret (he : PE X e te) : PS X (.Return (some e) pos) (tRet te) := by
  intro pins s σ H D I h
  exact wpAny_Return_some (thn (he pins s σ H _ I h) fun v s1 ⟨x, H1, I1, r1, q1⟩ => ⟨x, σ, H1, I1, r1, q1⟩)
def tRetN : TS := fun D _ H => D.rt .non H
def tIfS (c : TT) (t u : TS) : TS := fun D σ H => c σ H fun b H1 => if b = true then t D σ H1 else u D σ H1
theorem ps_if {c : Expr} {a b : List Stmt} {tc : TT} (hc : PT X c tc) (ha : PSs X a t) (hb : PSs X b u) : PS X (.If c a b pos) (tIfS tc t u) := by
  intro pins s σ H D I h
  refine wpAny_If (thn (hc pins s σ H _ I h) fun d s1 ⟨H1, I1, q1⟩ => ?_)
  cases d with
  | true => exact ha pins s1 σ H1 D I1 q1
  | false => exact hb pins s1 σ H1 D I1 q1
end

abbrev TG := V → St → Hp → (St → Hp → Prop) → Prop
abbrev TGs := List V → St → Hp → (St → Hp → Prop) → Prop
def PG (X : Cx) (target : Expr) (t : TG) : Prop :=
  ∀ (pins : List (Addr × Obj)) (s : Shared) (σ : St) (H : Hp) (v : V) (u : Value) (Q : St → Hp → Prop), Inv X pins σ H s → RelV v u → t v σ H Q →
    wpAny (model X.prog X.w) X.A (assign target X.env u) (fun _ s' => ∃ σ' H', Inv X pins σ' H' s' ∧ Q σ' H') X.xe s
def PGs (X : Cx) (ts : List Expr) (t : TGs) : Prop :=
  ∀ (pins : List (Addr × Obj)) (s : Shared) (σ : St) (H : Hp) (vs : List V) (us : List Value) (Q : St → Hp → Prop), Inv X pins σ H s → Vals vs us → t vs σ H Q →
    wpAny (model X.prog X.w) X.A (assignInOrder ((assignEach ts X.env).map (·.2)) us) (fun _ s' => ∃ σ' H', Inv X pins σ' H' s' ∧ Q σ' H') X.xe s
abbrev TSet := V → V → V → Hp → (Hp → Prop) → Prop
def PSet (X : Cx) (t : TSet) : Prop :=
  ∀ (pins : List (Addr × Obj)) (s : Shared) (σ : St) (H : Hp) (o i v : V) (ov iv u : Value) (Q : Hp → Prop), Inv X pins σ H s → RelV o ov → RelV i iv → RelV v u → t o i v H Q →
    wpAny (model X.prog X.w) X.A (setItem ov iv u) (fun _ s' => ∃ H', Inv X pins σ H' s' ∧ Q H') X.xe s
abbrev TIp := V → V → Hp → VK → Prop
def PIp (X : Cx) (op : Operator) (t : TIp) : Prop :=
  ∀ (pins : List (Addr × Obj)) (s : Shared) (σ : St) (H : Hp) (x y : V) (v u : Value) (Q : VK), Inv X pins σ H s → RelV x v → RelV y u → t x y H Q →
    wpAny (model X.prog X.w) X.A (inplaceOp op v u) (EP X pins σ Q) X.xe s
section
variable {X : Cx} {pos : Pos}
def gName (i : Nat) : TG := fun v σ H Q => Q (σ.set i (some v)) H
theorem pg_name {i : Nat} {x : Str} (hN : X.N.Nodup) (hi : X.N[i]? = some x) (hx : Loc X.env.scope x) (hf : X.fn x = true ∨ X.env.scope.names.lookup x = some .local := by first | exact .inl rfl | exact .inr rfl | assumption) : PG X (.Name x pos) (gName i) := by
  intro pins s σ H v u Q I r h
  exact wpAny_assign_Name (store_ok I hN hi hx r (fun s' I' => ⟨_, H, I', h⟩) hf)
def gNil : TGs := fun vs σ H Q => vs = [] ∧ Q σ H
def gCons (t : TG) (u : TGs) : TGs := fun vs σ H Q => ∃ v r, vs = v :: r ∧ t v σ H fun σ' H' => u r σ' H' Q
theorem pgs_nil : PGs X [] gNil := by
  intro pins s σ H vs us Q I r h
  obtain ⟨e, h⟩ := h
  subst e
  cases r
  exact assignInOrder_nil ⟨σ, H, I, h⟩
theorem pgs_cons {e : Expr} {es : List Expr} {t : TG} {u : TGs} (h1 : PG X e t) (h2 : PGs X es u)
    (hs : (assignEach (e :: es) X.env).map (·.2) = assign e X.env :: (assignEach es X.env).map (·.2) := by rfl) : PGs X (e :: es) (gCons t u) := by
  intro pins s σ H vs us Q I r h
  obtain ⟨v, vr, e1, h⟩ := h
  subst e1
  cases r with
  | cons r rr =>
    rw [hs]
    refine assignInOrder_cons (thn (h1 pins s σ H _ _ _ I r h) fun _ s1 ⟨σ1, H1, I1, q1⟩ => ?_)
    exact h2 pins s1 σ1 H1 _ _ Q I1 rr q1
def gTup (K : PySem.W.Frag) (n : Nat) (t : TGs) : TG := fun v σ H Q => ∃ a xs, v = .ref a ∧ SqT K H a xs ∧ xs.length = n ∧ t xs σ H Q
theorem pg_tup {es : List Expr} {k : Nat} {t : TGs} {n : Nat} (hc : X.calm = true) (h : PGs X es t)
    (hn : (assignEach es X.env).length = n := by rfl) (hst : (assignEach es X.env).findIdx? (·.1) = none := by rfl) : PG X (.Tuple es k pos) (gTup X.K n t) := by
  intro pins s σ H v u Q I r hw
  obtain ⟨a, xs, e1, hq, hl, hw⟩ := hw
  subst e1
  cases r
  obtain ⟨its, rv, ht, hz⟩ := I.tuple hq
  refine assign_Tuple_tuple (I.ok.hd hc) ht (by simp [hn, ← hl, rv.length]) hst fun h' hx => ?_
  have I1 : Inv X pins σ H { s with heap := h' } := I.kept (t' := s.toks) fun b o e => hx b o (Nat.ne_of_lt (Heap.lt_size e)) e
  exact h pins _ σ H xs _ Q I1 (by simpa using rv) hw
def tAsg (te : TE) (g : TG) : TS := fun D σ H => te σ H fun x H1 => g x σ H1 D.nx
theorem ps_set {i : Nat} {x : Str} {e : Expr} {te : TE} {pos' : Pos} (hN : X.N.Nodup) (hi : X.N[i]? = some x) (hx : Loc X.env.scope x) (he : PE X e te) (hs : swapsWith e (some (.Name x pos')) pos.line X.env = pure false := by rfl) (hf : X.fn x = true ∨ X.env.scope.names.lookup x = some .local := by first | exact .inl rfl | exact .inr rfl | assumption) :
    PS X (.Assign [.Name x pos'] e pos) (tAsg te (gName i)) := by
  intro pins s σ H D I h
  refine wpAny_Assign_Name (thn (he pins s σ H _ I h) fun v s1 ⟨y, H1, I1, r1, q1⟩ => ?_) hs
  exact store_ok I1 hN hi hx r1 (fun s2 I2 => ⟨_, H1, I2, q1⟩) hf
def tAug (i : Nat) (te : TE) (ti : TIp) : TS := fun D σ H => ∃ x, σ[i]? = some (some x) ∧ te σ H fun y H1 => ti x y H1 fun z H2 => D.nx (σ.set i (some z)) H2
theorem ps_aug {i : Nat} {x : Str} {e : Expr} {te : TE} {op : Operator} {ti : TIp} {pos' : Pos} (hN : X.N.Nodup) (hi : X.N[i]? = some x) (hx : Loc X.env.scope x) (he : PE X e te) (ho : PIp X op ti) (hf : X.fn x = true ∨ X.env.scope.names.lookup x = some .local := by first | exact .inl rfl | exact .inr rfl | assumption) :
    PS X (.AugAssign (.Name x pos') op e pos) (tAug i te ti) := by
  intro pins s σ H D I h
  obtain ⟨v, e1, h⟩ := h
  obtain ⟨m, hn, hl⟩ := I.loc
  have vis : Vis X.env.scope x := by rcases hx with k | k; exact .inl k; exact .inr (.inl k)
  obtain ⟨u, r, l⟩ := hl i x v hi e1 vis
  refine wpAny_AugAssign_Name ?_
  have go : wpAny (model X.prog X.w) X.A (eval e X.env) (fun w s₂ => wpAny (model X.prog X.w) X.A (inplaceOp op u w) (fun r s₃ => wpAny (model X.prog X.w) X.A (storeName X.env x r) (fun _ => SP X pins D .next) X.xe s₃) X.xe s₂) X.xe s := by
    refine thn (he pins s σ H _ I h) fun w s1 ⟨y, H1, I1, r1, q1⟩ => ?_
    refine thn (ho pins s1 σ H1 v y u w _ I1 r r1 q1) fun z s2 ⟨zv, H2, I2, r2, q2⟩ => ?_
    exact store_ok I2 hN hi hx r2 (fun s3 I3 => ⟨_, H2, I3, q2⟩) hf
  rcases l with ⟨hk, hm⟩ | ⟨hk, c, hc, hcell⟩
  · exact wpAny_loadName_local I.ok.kind hk hn hm go
  · rcases hk with hk | hk
    · exact wpAny_loadName_cell I.ok.kind hk hc hcell go
    · rcases hx with k | k
      · have : X.env.scope.names.lookup x = some .free := hk
        rw [k] at this; cases this
      · have : X.env.scope.names.lookup x = some .free := hk
        rw [k] at this; cases this
def ipI (f : Int → Int → Int) : TIp := fun x y H Q => ∃ i j, x = .int i ∧ y = .int j ∧ Q (.int (f i j)) H
theorem ip_add : PIp X .Add (ipI fun i j => i + j) := by
  intro pins s σ H x y v u Q I r1 r2 h
  obtain ⟨i, j, e1, e2, q⟩ := h
  subst e1; subst e2
  obtain ⟨t, rfl⟩ := r1
  obtain ⟨t', rfl⟩ := r2
  exact iadd_int ⟨.int _, H, I.tok _, ⟨_, rfl⟩, q⟩
end

section
variable {X : Cx} {pos : Pos}
def tWhile (c : TT) (tb : TS) : TS := fun D σ H => ∃ W : Nat → St → Hp → Prop, (∃ m, W m σ H) ∧ ∀ m σ H, W m σ H →
  c σ H fun b H1 => if b = true then ∃ N : St → Hp → Prop, (∀ σ' H', N σ' H' → ∃ m', m' < m ∧ W m' σ' H') ∧ tb { D with nx := N, ct := N, bk := D.nx } σ H1 else D.nx σ H1
theorem ps_while {c : Expr} {body : List Stmt} {tc : TT} {tb : TS} (hp : PassesOwn (model X.prog X.w) X.A X.env X.xe) (hc : PT X c tc) (hb : PSs X body tb) : PS X (.While c body [] pos) (tWhile tc tb) := by
  intro pins s σ H D I h
  obtain ⟨W, ⟨m0, w0⟩, turn⟩ := h
  refine wpAny_While (codeAny_whileLoop (fun n s' => ∃ σ' H', Inv X pins σ' H' s' ∧ W n σ' H') ?_ m0 ⟨σ, H, I, w0⟩)
  rintro n s1 ⟨σ1, H1, I1, w1⟩
  refine wpAny_passesOwn hp (thn (hc pins s1 σ1 H1 _ I1 (turn n σ1 H1 w1)) fun b s2 ⟨H2, I2, q2⟩ => ?_)
  cases b with
  | true =>
    obtain ⟨N, hN, q2⟩ := q2
    rw [if_pos rfl]
    refine wpAny_passesOwn hp (thn (hb pins s2 σ1 H2 _ I2 q2) fun f s3 q3 => ?_)
    cases f with
    | next =>
      obtain ⟨σ3, H3, I3, n3⟩ := q3
      obtain ⟨m', hm, w3⟩ := hN σ3 H3 n3
      exact ⟨m', hm, σ3, H3, I3, w3⟩
    | cont =>
      obtain ⟨σ3, H3, I3, n3⟩ := q3
      obtain ⟨m', hm, w3⟩ := hN σ3 H3 n3
      exact ⟨m', hm, σ3, H3, I3, w3⟩
    | brk => exact q3
    | ret v => exact q3
  | false =>
    rw [if_neg Bool.false_ne_true]
    exact wpAny_execs_nil ⟨σ1, H2, I2, q2⟩
end

/-- at turn i: it yields x (the heap may grow), or it stops -/
structure It where
  go : Nat → Hp → Prop
  yld : Nat → Hp → V → Hp → Prop
  stop : Nat → Hp → Prop
def FpOk (X : Cx) (pins : List (Addr × Obj)) (H : Hp) (b : Addr) : Prop :=
  H b = none ∧ b ≠ X.env.locals ∧ b ∉ X.fs ∧ (b ∈ X.ex ∨ X.s₀.heap.objs.size ≤ b) ∧ (∀ x c, X.env.cells.lookup x = some c → c ≠ b) ∧ ∀ p ∈ X.pn ++ pins, p.1 ≠ b
theorem Inv.fpOk {X : Cx} {pins : List (Addr × Obj)} {σ : St} {H H' : Hp} {s : Shared} {b : Addr} (I : Inv X pins σ H s) (hb : s.heap.objs.size ≤ b) (hn : H' b = none) : FpOk X pins H' b := by
  refine ⟨hn, Nat.ne_of_gt (Nat.lt_of_lt_of_le I.lt hb), I.nofs hb, .inr (Nat.le_trans I.sz hb), fun x c e z => ?_, fun p hp z => ?_⟩
  · obtain ⟨v, q⟩ := I.cell x c e
    exact absurd (Nat.lt_of_lt_of_le q.lt (by rw [z]; exact hb)) (Nat.lt_irrefl _)
  · exact absurd (Nat.lt_of_lt_of_le (Heap.lt_size (I.pin p hp).1) (by rw [z]; exact hb)) (Nat.lt_irrefl _)
structure Turn (P : Program) (w : World) (K : PySem.W.Frag) (tg : Expr) (J : It) (fp : List Addr) (it : Addr) (tn : Nat → Heap → Prop) : Prop where
  mem : it ∈ fp
  obj : ∀ i h, tn i h → ∀ b ∈ fp, ∃ o, h.get? b = some o ∧ ∀ v, o.data ≠ .cell v
  keep : ∀ i h h', tn i h → (∀ b ∈ fp, ∀ o, h.get? b = some o → h'.get? b = some o) → tn i h'
  item : ∀ (X : Cx), X.prog = P → X.w = w → X.K = K → X.calm = true → ∀ (i : Nat) (pins : List (Addr × Obj)) (s : Shared) (σ : St) (H : Hp) (E : Value → Shared → Prop), Inv X pins σ H s → (∀ b ∈ fp, FpOk X pins H b) → tn i s.heap → J.go i H →
    wpAny (model P w) X.A (pyNext (.ref it)) (fun r s1 => ∃ u, r = some u ∧
      wpAny (model P w) X.A (letOwnedTupleGo tg (.ref it) u) (fun _ s2 => ∃ x H', Inv X pins σ H' s2 ∧ RelV x u ∧ J.yld i H x H' ∧ tn (i + 1) s2.heap ∧ ∀ b ∈ fp, H' b = none) E s1) E s
  done : ∀ (X : Cx), X.prog = P → X.w = w → X.K = K → X.calm = true → ∀ (i : Nat) (pins : List (Addr × Obj)) (s : Shared) (σ : St) (H : Hp) (E : Value → Shared → Prop), Inv X pins σ H s → (∀ b ∈ fp, FpOk X pins H b) → tn i s.heap → J.stop i H →
    wpAny (model P w) X.A (pyNext (.ref it)) (fun r s1 => r = none ∧ Inv X pins σ H s1) E s
  self : ∀ (A : Around) (i : Nat) (s : Shared) (Q : Value → Shared → Prop) (E : Value → Shared → Prop), tn i s.heap → Q (.ref it) s → wpAny (model P w) A (pyIter (.ref it)) Q E s
abbrev TI := St → Hp → (It → Hp → Prop) → Prop
def PIE (X : Cx) (pins : List (Addr × Obj)) (σ : St) (tg : Expr) (R : It → Hp → Prop) (itv : Value) (s2 : Shared) : Prop :=
  ∃ (it : Addr) (fp : List Addr) (tn : Nat → Heap → Prop) (J : It) (H' : Hp), itv = .ref it ∧ Inv X pins σ H' s2 ∧ Turn X.prog X.w X.K tg J fp it tn ∧ tn 0 s2.heap ∧ (∀ b ∈ fp, FpOk X pins H' b) ∧ R J H'
def PI (X : Cx) (tg iter : Expr) (wi : TI) : Prop :=
  ∀ (pins : List (Addr × Obj)) (s : Shared) (σ : St) (H : Hp) (R : It → Hp → Prop), Inv X pins σ H s → wi σ H R →
    wpAny (model X.prog X.w) X.A (eval iter X.env) (fun v s1 => wpAny (model X.prog X.w) X.A (pyIter v) (PIE X pins σ tg R) X.xe s1) X.xe s

theorem go_of {M : Model} {A : Around} {E : Value → Shared → Prop} {s : Shared} {tg : Expr} {it : Addr} {u : Value} {o : Obj} {n : String} {vs : Array Value} {Q : Unit → Shared → Prop} (ho : s.heap.get? it = some o) (hc : o.cls = .type n) (hd : o.data = .fields vs)
    (hn : ["enumerate", "zip", "dict_itemiterator", "dict_reverseitemiterator", "odict_iterator", "itertools.zip_longest", "itertools.pairwise"].contains n = false) (hQ : Q () s) : wpAny M A (letOwnedTupleGo tg (.ref it) u) Q E s := by
  unfold letOwnedTupleGo
  cases tg <;> first
    | exact wpAny_pure hQ
    | (cases u <;> first
        | exact wpAny_pure hQ
        | (refine wpAny_bind (wpAny_load ho ?_)
           rw [hc, hd]
           show wpAny M A (if (["enumerate", "zip", "dict_itemiterator", "dict_reverseitemiterator", "odict_iterator", "itertools.zip_longest", "itertools.pairwise"].contains n && vs[0]? == some (rawInt _)) = true then _ else _) Q E s
           rw [if_neg (by intro h; rw [hn, Bool.false_and] at h; cases h)]
           exact wpAny_pure hQ))

def Itl (K : PySem.W.Frag) (a : Addr) : It :=
  ⟨fun i H => ∃ xs x, SqL K H a xs ∧ xs[i]? = some x, fun i H x H' => H' = H ∧ ∀ xs, SqL K H a xs → xs[i]? = some x, fun i H => ∃ xs, SqL K H a xs ∧ xs.length ≤ i⟩
def Itt (K : PySem.W.Frag) (a : Addr) : It :=
  ⟨fun i H => ∃ xs x, SqT K H a xs ∧ xs[i]? = some x, fun i H x H' => H' = H ∧ ∀ xs, SqT K H a xs → xs[i]? = some x, fun i H => ∃ xs, SqT K H a xs ∧ xs.length ≤ i⟩
def Itr (lo : Int) (n : Nat) : It := ⟨fun i _ => i < n, fun i H x H' => H' = H ∧ x = .int (lo + i), fun i _ => n ≤ i⟩
theorem turn_list {P : Program} {w : World} {K : PySem.W.Frag} {tg : Expr} (a it : Addr) : Turn P w K tg (Itl K a) [it] it (fun i h => h.IsListIter it a i) where
  mem := by simp
  obj := fun i h st b hb => by
    have e : b = it := by simpa using hb
    subst e
    obtain ⟨o, e, c, d⟩ := st
    exact ⟨o, e, fun v z => by rw [d] at z; cases z⟩
  keep := fun i h h' st k => st.at fun o e => k it (by simp) o e
  item := by
    intro X hP hw hK hc i pins s σ H E I hf st hg
    subst hP hw hK
    obtain ⟨xs, x, hq, hx⟩ := hg
    obtain ⟨its, rv, p, hz⟩ := I.list hq
    obtain ⟨u, hu, ru⟩ := rv.get hx
    obtain ⟨f0, f1, f2, f3, f4, f5⟩ := hf it (by simp)
    refine wpAny_pyNext_list_item st p.isList (x := u) (by simpa using hu) fun h' st' sb => ?_
    have I1 : Inv X pins σ H { s with heap := h' } := I.turned (t' := s.toks) (fun b o hb e => (sb.2 b hb).trans e) f0 f1 f3 f4 f5
    obtain ⟨o, e, c, d⟩ := id st'
    exact ⟨u, rfl, go_of (s := { s with heap := h' }) e c d (by decide) ⟨x, H, I1, ru, ⟨rfl, fun ys hy => by rw [I.list_inj hy hq]; exact hx⟩, st', fun b hb => (hf b hb).1⟩⟩
  done := by
    intro X hP hw hK hc i pins s σ H E I hf st hg
    subst hP hw hK
    obtain ⟨xs, hq, hx⟩ := hg
    obtain ⟨its, rv, p, hz⟩ := I.list hq
    obtain ⟨f0, f1, f2, f3, f4, f5⟩ := hf it (by simp)
    have hl := rv.length
    exact wpAny_pyNext_list_end (I.ok.hd hc) st p.isList (by simp; omega) fun h' eb => ⟨rfl, I.turned (t' := s.toks) (fun b o hb e => eb b o hb e) f0 f1 f3 f4 f5⟩
  self := fun _ _ _ _ _ st h => wpAny_pyIter_listiter st h
theorem turn_tuple {P : Program} {w : World} {K : PySem.W.Frag} {tg : Expr} (a it : Addr) : Turn P w K tg (Itt K a) [it] it (fun i h => h.IsTupleIter it a i) where
  mem := by simp
  obj := fun i h st b hb => by
    have e : b = it := by simpa using hb
    subst e
    obtain ⟨o, e, c, d⟩ := st
    exact ⟨o, e, fun v z => by rw [d] at z; cases z⟩
  keep := fun i h h' st k => st.at fun o e => k it (by simp) o e
  item := by
    intro X hP hw hK hc i pins s σ H E I hf st hg
    subst hP hw hK
    obtain ⟨xs, x, hq, hx⟩ := hg
    obtain ⟨its, rv, p, hz⟩ := I.tuple hq
    obtain ⟨u, hu, ru⟩ := rv.get hx
    obtain ⟨f0, f1, f2, f3, f4, f5⟩ := hf it (by simp)
    refine wpAny_pyNext_tuple_item st (show s.heap.IsTuple a its.toArray from p) (x := u) (by simpa using hu) fun h' st' sb => ?_
    have I1 : Inv X pins σ H { s with heap := h' } := I.turned (t' := s.toks) (fun b o hb e => (sb.2 b hb).trans e) f0 f1 f3 f4 f5
    obtain ⟨o, e, c, d⟩ := id st'
    exact ⟨u, rfl, go_of (s := { s with heap := h' }) e c d (by decide) ⟨x, H, I1, ru, ⟨rfl, fun ys hy => by rw [I.tuple_inj hy hq]; exact hx⟩, st', fun b hb => (hf b hb).1⟩⟩
  done := by
    intro X hP hw hK hc i pins s σ H E I hf st hg
    subst hP hw hK
    obtain ⟨xs, hq, hx⟩ := hg
    obtain ⟨its, rv, p, hz⟩ := I.tuple hq
    obtain ⟨f0, f1, f2, f3, f4, f5⟩ := hf it (by simp)
    have hl := rv.length
    exact wpAny_pyNext_tuple_end (I.ok.hd hc) st (show s.heap.IsTuple a its.toArray from p) (by simp; omega) fun h' eb => ⟨rfl, I.turned (t' := s.toks) (fun b o hb e => eb b o hb e) f0 f1 f3 f4 f5⟩
  self := fun _ _ _ _ _ st h => wpAny_pyIter_tupleiter st h
theorem turn_range {P : Program} {w : World} {K : PySem.W.Frag} {tg : Expr} (it : Addr) (lo : Int) (n : Nat) : Turn P w K tg (Itr lo n) [it] it (fun i h => IsRangeIter h it (lo + (i : Nat) * 1) ((n : Int) - (i : Nat)) 1) where
  mem := by simp
  obj := fun i h st b hb => by
    have e : b = it := by simpa using hb
    subst e
    exact ⟨_, st, fun v z => by
      have z' : Data.fields _ = Data.cell v := z
      cases z'⟩
  keep := fun i h h' st k => k it (by simp) _ st
  item := by
    intro X hP hw hK hc i pins s σ H E I hf st hg
    subst hP hw hK
    obtain ⟨f0, f1, f2, f3, f4, f5⟩ := hf it (by simp)
    have W := Walks.range (prog := X.prog) (w := X.w) (I.ok.hd hc) it lo 1 n
    refine W.item i s _ _ hg st fun v h' tk hv st' kk => ?_
    obtain ⟨t, rfl⟩ := hv
    have I1 : Inv X pins σ H { s with heap := h', toks := tk } := I.turned (fun b o hb e => kk b o (by simpa using hb) e) f0 f1 f3 f4 f5
    refine ⟨_, rfl, go_of (s := { s with heap := h', toks := tk }) (n := "range_iterator") st' rfl rfl (by decide) ⟨.int (lo + i), H, I1, ⟨t, ?_⟩, ⟨rfl, rfl⟩, st', fun b hb => (hf b hb).1⟩⟩
    rw [Int.mul_one]
  done := by
    intro X hP hw hK hc i pins s σ H E I hf st hg
    subst hP hw hK
    obtain ⟨f0, f1, f2, f3, f4, f5⟩ := hf it (by simp)
    exact wpAny_pyNext_range_end (I.ok.hd hc) st (by have : n ≤ i := hg; omega) fun h' eb => ⟨rfl, I.turned (t' := s.toks) (fun b o hb e => eb b o hb e) f0 f1 f3 f4 f5⟩
  self := fun _ _ _ _ _ st h => wpAny_pyIter_rangeiter st h
end L2

namespace L2
open PySem PySem.Spec PyProof.Rows
section
variable {X : Cx} {tg : Expr}
def iList (K : PySem.W.Frag) (tl : TE) : TI := fun σ H R => tl σ H fun x H1 => ∃ a, x = .ref a ∧ (∃ xs, SqL K H1 a xs) ∧ R (Itl K a) H1
def iTup (K : PySem.W.Frag) (tl : TE) : TI := fun σ H R => tl σ H fun x H1 => ∃ a, x = .ref a ∧ (∃ xs, SqT K H1 a xs) ∧ R (Itt K a) H1
theorem pi_list {l : Expr} {tl : TE} (hl : PE X l tl) : PI X tg l (iList X.K tl) := by
  intro pins s σ H R I h
  refine thn (hl pins s σ H _ I h) fun v s1 ⟨x, H1, I1, r1, q1⟩ => ?_
  obtain ⟨a, e, ⟨xs, hq⟩, q⟩ := q1
  subst e
  cases r1
  obtain ⟨its, rv, p, hz⟩ := I1.list hq
  refine wpAny_pyIter_list p.isList ?_
  refine ⟨s1.heap.objs.size, [s1.heap.objs.size], _, _, H1, rfl, I1.kept (t' := s1.toks) fun b o e => Heap.get?_push_of_some _ e, turn_list a _, ⟨_, Heap.get?_push_size _ rfl, rfl, rfl⟩, fun b hb => ?_, q⟩
  have e : b = s1.heap.objs.size := by simpa using hb
  subst e
  exact I1.fpOk (Nat.le_refl _) (I1.hok.fresh (Nat.le_refl _))
theorem pi_tup {l : Expr} {tl : TE} (hl : PE X l tl) : PI X tg l (iTup X.K tl) := by
  intro pins s σ H R I h
  refine thn (hl pins s σ H _ I h) fun v s1 ⟨x, H1, I1, r1, q1⟩ => ?_
  obtain ⟨a, e, ⟨xs, hq⟩, q⟩ := q1
  subst e
  cases r1
  obtain ⟨its, rv, p, hz⟩ := I1.tuple hq
  refine wpAny_pyIter_tuple (show s1.heap.IsTuple a its.toArray from p) ?_
  refine ⟨s1.heap.objs.size, [s1.heap.objs.size], _, _, H1, rfl, I1.kept (t' := s1.toks) fun b o e => Heap.get?_push_of_some _ e, turn_tuple a _, ⟨_, Heap.get?_push_size _ rfl, rfl, rfl⟩, fun b hb => ?_, q⟩
  have e : b = s1.heap.objs.size := by simpa using hb
  subst e
  exact I1.fpOk (Nat.le_refl _) (I1.hok.fresh (Nat.le_refl _))
theorem range_it {pins : List (Addr × Obj)} {σ : St} {H : Hp} {s : Shared} {R : It → Hp → Prop} {E : Value → Shared → Prop} {lo hi : Int} {t u v : Tok} {tk : Nat} (I : Inv X pins σ H s) (h1 : -(2 ^ 62) ≤ lo) (h2 : lo < 2 ^ 62) (h3 : -(2 ^ 62) ≤ hi) (h4 : hi < 2 ^ 62)
    (q : R (Itr lo (hi - lo).toNat) H) : wpAny (model X.prog X.w) X.A (pyIter (.ref s.heap.objs.size)) (PIE X pins σ tg R) E { s with heap := s.heap.push { cls := .type "range", data := .fields #[.int lo t, .int hi u, .int 1 v] }, toks := tk } := by
  refine wpAny_pyIter_range (IsRange.new ..) (small_one h1 h2 h3 h4) ?_
  have I1 : Inv X pins σ H { s with heap := s.heap.push { cls := .type "range", data := .fields #[.int lo t, .int hi u, .int 1 v] }, toks := tk } := I.kept fun b o e => Heap.get?_push_of_some _ e
  refine ⟨(s.heap.push { cls := .type "range", data := .fields #[.int lo t, .int hi u, .int 1 v] }).objs.size, [(s.heap.push { cls := .type "range", data := .fields #[.int lo t, .int hi u, .int 1 v] }).objs.size], _, _, H, rfl,
    I1.kept (t' := tk) fun b o e => Heap.get?_push_of_some _ e, turn_range _ lo (hi - lo).toNat, ?_, fun b hb => ?_, q⟩
  · have e1 : lo + ((0 : Nat) : Int) * 1 = lo := by simp
    have e2 : (((hi - lo).toNat : Nat) : Int) - ((0 : Nat) : Int) = Builtin.Range.rangeSize lo hi 1 := by rw [rangeSize_one]; split <;> omega
    show IsRangeIter _ _ (lo + ((0 : Nat) : Int) * 1) ((((hi - lo).toNat : Nat) : Int) - ((0 : Nat) : Int)) 1
    rw [e1, e2]
    exact Heap.get?_push_size _ rfl
  · have e : b = (s.heap.push { cls := .type "range", data := .fields #[.int lo t, .int hi u, .int 1 v] }).objs.size := by simpa using hb
    subst e
    exact I1.fpOk (Nat.le_refl _) (I1.hok.fresh (Nat.le_refl _))
def iRng1 (ta : TA) : TI := fun σ H R => ta σ H fun vs H1 => ∃ j : Int, vs = [.int j] ∧ -(2 ^ 62) ≤ j ∧ j < 2 ^ 62 ∧ R (Itr 0 j.toNat) H1
def iRng2 (ta : TA) : TI := fun σ H R => ta σ H fun vs H1 => ∃ i j : Int, vs = [.int i, .int j] ∧ (-(2 ^ 62) ≤ i ∧ i < 2 ^ 62 ∧ -(2 ^ 62) ≤ j ∧ j < 2 ^ 62) ∧ R (Itr i (j - i).toNat) H1
theorem pi_range1 {a : Expr} {ta : TA} {p pos : Pos} (hg : Gl X "range") (hm : X.mg "range" = none) (ha : PA X [a] ta) (hs : starEach [a] X.env = [(false, eval a X.env)] := by rfl) : PI X tg (.Call (.Name "range" p) [a] [] pos) (iRng1 ta) := by
  intro pins s σ H R I h
  refine Call_ (ld_blt I hg hm boot_range (PyProof.Rows.callWith_type1 (thn (ha pos pins s σ H _ I h) fun us s1 ⟨vs, H1, I1, r1, q1⟩ => ?_) hs rfl))
  obtain ⟨j, e, q1, q2, q⟩ := q1
  subst e
  cases r1 with
  | cons r rr =>
    cases rr
    obtain ⟨t, rfl⟩ := r
    exact call_range_1 (range_it I1 (by omega) (by omega) q1 q2 (by simpa using q))
theorem pi_range2 {a b : Expr} {ta : TA} {p pos : Pos} (hg : Gl X "range") (hm : X.mg "range" = none) (ha : PA X [a, b] ta) (hs : starEach [a, b] X.env = [(false, eval a X.env), (false, eval b X.env)] := by rfl) (hs2 : starEach [b] X.env = [(false, eval b X.env)] := by rfl) :
    PI X tg (.Call (.Name "range" p) [a, b] [] pos) (iRng2 ta) := by
  intro pins s σ H R I h
  refine Call_ (ld_blt I hg hm boot_range (PyProof.Rows.callWith_type1 (thn (ha pos pins s σ H _ I h) fun us s1 ⟨vs, H1, I1, r1, q1⟩ => ?_) (by rw [hs, hs2]) (by rw [hs2]; rfl)))
  obtain ⟨i, j, e, ⟨q1, q2, q3, q4⟩, q⟩ := q1
  subst e
  cases r1 with
  | cons r rr =>
    cases rr with
    | cons r' rr =>
      cases rr
      obtain ⟨t, rfl⟩ := r
      obtain ⟨t', rfl⟩ := r'
      exact call_range_2 (range_it I1 q1 q2 q3 q4 q)

/-- W: the invariant by the turn and a measure; N: what the body is to reach -/
def tFor (wi : TI) (g : TG) (tb : TS) : TS := fun D σ H => wi σ H fun J H1 => ∃ W : Nat → Nat → St → Hp → Prop, (∃ m, W 0 m σ H1) ∧ ∀ i m σ H, W i m σ H →
  (J.stop i H ∧ D.nx σ H) ∨ (J.go i H ∧ ∃ N : St → Hp → Prop, (∀ σ' H', N σ' H' → ∃ m', m' < m ∧ W (i + 1) m' σ' H') ∧ ∀ x H', J.yld i H x H' → g x σ H' fun σ2 H2 => tb { D with nx := N, ct := N, bk := D.nx } σ2 H2)
def pinsAt (fp : List Addr) (h : Heap) : List (Addr × Obj) := fp.filterMap fun b => (h.get? b).map fun o => (b, o)
theorem mem_pinsAt {fp : List Addr} {h : Heap} {b : Addr} {o : Obj} (hb : b ∈ fp) (e : h.get? b = some o) : (b, o) ∈ pinsAt fp h := List.mem_filterMap.mpr ⟨b, hb, by rw [e]; rfl⟩
theorem of_pinsAt {fp : List Addr} {h : Heap} {p : Addr × Obj} (hp : p ∈ pinsAt fp h) : p.1 ∈ fp ∧ h.get? p.1 = some p.2 := by
  obtain ⟨b, hb, e⟩ := List.mem_filterMap.mp hp
  cases q : h.get? b with
  | none => rw [q] at e; cases e
  | some o =>
    rw [q] at e
    have e' : (b, o) = p := Option.some.inj e
    subst e'
    exact ⟨hb, q⟩
theorem Inv.pinned {pins : List (Addr × Obj)} {σ : St} {H : Hp} {s : Shared} {fp : List Addr} (I : Inv X pins σ H s) (hf : ∀ b ∈ fp, FpOk X pins H b) (ho : ∀ b ∈ fp, ∃ o, s.heap.get? b = some o ∧ ∀ v, o.data ≠ .cell v) : Inv X (pins ++ pinsAt fp s.heap) σ H s :=
  I.pins_of fun p hp => (List.mem_append.mp hp).elim (fun z => I.pin p (List.mem_append_right _ z)) fun z => by
    obtain ⟨hb, e⟩ := of_pinsAt z
    obtain ⟨f0, f1, f2, _⟩ := hf p.1 hb
    obtain ⟨o, e', d⟩ := ho p.1 hb
    rw [e] at e'; cases e'
    exact ⟨e, f0, f1, f2, d⟩
theorem Inv.unpinned {pins pl : List (Addr × Obj)} {σ : St} {H : Hp} {s : Shared} (I : Inv X (pins ++ pl) σ H s) : Inv X pins σ H s := I.pins_of fun p hp => I.pin p (List.mem_append_right _ (List.mem_append_left _ hp))
theorem ps_for {iter : Expr} {body : List Stmt} {wi : TI} {g : TG} {tb : TS} {pos : Pos} (hp : PassesOwn (model X.prog X.w) X.A X.env X.xe) (hc : X.calm = true) (hi : PI X tg iter wi) (hg : PG X tg g) (hb : PSs X body tb)
    (hs : ∀ x, foldedSetIterable iter X.env x = pure x := by intro _; rfl) : PS X (.For tg iter body [] pos) (tFor wi g tb) := by
  intro pins s σ H D I h
  refine wpAny_For (thn (hi pins s σ H _ I h) fun v s1 h1 => thn h1 fun itv s2 h2 => ?_) hs
  obtain ⟨it, fp, tn, J, H2, e, I2, T, st2, f2, W, ⟨m0, w0⟩, turn⟩ := h2
  subst e
  -- what stays true of the iterator's objects through the loop
  have stat : ∀ {H' : Hp}, (∀ b ∈ fp, H' b = none) → ∀ b ∈ fp, FpOk X pins H' b := fun hn b hb => ⟨hn b hb, (f2 b hb).2⟩
  refine codeAny_forLoop_any (fun n s' => ∃ i σ' H', Inv X pins σ' H' s' ∧ tn i s'.heap ∧ (∀ b ∈ fp, H' b = none) ∧ W i n σ' H') ?_ m0 ⟨0, σ, H2, I2, st2, fun b hb => (f2 b hb).1, w0⟩
  rintro n s3 ⟨i, σ3, H3, I3, st3, fr3, w3⟩
  rcases turn i n σ3 H3 w3 with ⟨stop, qn⟩ | ⟨go, N, hN, step⟩
  · refine wpAny_passesOwn hp (thn (T.done X rfl rfl rfl hc i pins s3 σ3 H3 X.xe I3 (stat fr3) st3 stop) fun r s4 ⟨hr, I4⟩ => ?_)
    subst hr
    exact wpAny_execs_nil ⟨σ3, H3, I4, qn⟩
  · refine wpAny_passesOwn hp (thn (T.item X rfl rfl rfl hc i pins s3 σ3 H3 X.xe I3 (stat fr3) st3 go) fun r s4 ⟨u, hr, h4⟩ => ?_)
    subst hr
    refine wpAny_passesOwn hp (thn h4 fun _ s5 ⟨x, H5, I5, r5, y5, st5, fr5⟩ => ?_)
    have I5' := I5.pinned (stat fr5) (T.obj _ _ st5)
    refine wpAny_passesOwn hp (thn (hg _ s5 σ3 H5 x u _ I5' r5 (step x H5 y5)) fun _ s6 ⟨σ6, H6, I6, q6⟩ => ?_)
    refine wpAny_passesOwn hp (thn (hb _ s6 σ6 H6 _ I6 q6) fun f s7 q7 => ?_)
    have again : ∀ {σ7 : St} {H7 : Hp}, Inv X (pins ++ pinsAt fp s5.heap) σ7 H7 s7 → N σ7 H7 → ∃ m, m < n ∧ ∃ i σ' H', Inv X pins σ' H' s7 ∧ tn i s7.heap ∧ (∀ b ∈ fp, H' b = none) ∧ W i m σ' H' := fun {σ7 H7} I7 n7 => by
      obtain ⟨m', hm, w7⟩ := hN σ7 H7 n7
      refine ⟨m', hm, i + 1, σ7, H7, I7.unpinned, T.keep _ _ _ st5 fun b hb o e => (I7.pin (b, o) (List.mem_append_right _ (List.mem_append_right _ (mem_pinsAt hb e)))).1, fun b hb => ?_, w7⟩
      obtain ⟨o, e, d⟩ := T.obj _ _ st5 b hb
      exact (I7.pin (b, o) (List.mem_append_right _ (List.mem_append_right _ (mem_pinsAt hb e)))).2.1
    cases f with
    | next => obtain ⟨σ7, H7, I7, n7⟩ := q7; exact again I7 n7
    | cont => obtain ⟨σ7, H7, I7, n7⟩ := q7; exact again I7 n7
    | brk => obtain ⟨σ7, H7, I7, q7⟩ := q7; exact ⟨σ7, H7, I7.unpinned, q7⟩
    | ret v => obtain ⟨x7, σ7, H7, I7, r7, q7⟩ := q7; exact ⟨x7, σ7, H7, I7.unpinned, r7, q7⟩
end

/-- over a list that the body leaves as it is -/
theorem for_list {K : PySem.W.Frag} {a : Addr} {xs : List V} {g : TG} {tb : TS} {D : Ends} {σ : St} {H : Hp} (Pv : Nat → St → Hp → Prop) (h0 : Pv 0 σ H) (hl : ∀ i σ H, i ≤ xs.length → Pv i σ H → SqL K H a xs)
    (hs : ∀ i x σ H, xs[i]? = some x → Pv i σ H → g x σ H fun σ2 H2 => tb { D with nx := Pv (i + 1), ct := Pv (i + 1), bk := D.nx } σ2 H2) (hd : ∀ σ H, Pv xs.length σ H → D.nx σ H) :
    ∃ W : Nat → Nat → St → Hp → Prop, (∃ m, W 0 m σ H) ∧ ∀ i m σ H, W i m σ H →
      ((Itl K a).stop i H ∧ D.nx σ H) ∨ ((Itl K a).go i H ∧ ∃ N : St → Hp → Prop, (∀ σ' H', N σ' H' → ∃ m', m' < m ∧ W (i + 1) m' σ' H') ∧ ∀ x H', (Itl K a).yld i H x H' → g x σ H' fun σ2 H2 => tb { D with nx := N, ct := N, bk := D.nx } σ2 H2) := by
  refine ⟨fun i m σ H => m = xs.length - i ∧ i ≤ xs.length ∧ Pv i σ H, ⟨xs.length, by simp, Nat.zero_le _, h0⟩, ?_⟩
  rintro i m σ H ⟨rfl, hi, p⟩
  have q := hl i σ H hi p
  by_cases hlt : i < xs.length
  · refine .inr ⟨⟨xs, xs[i], q, by simp [hlt]⟩, Pv (i + 1), fun σ' H' p' => ⟨xs.length - (i + 1), by omega, rfl, hlt, p'⟩, fun x H' y => ?_⟩
    obtain ⟨e, y⟩ := y
    subst e
    exact hs i x σ _ (y xs q) p
  · have e : i = xs.length := by omega
    subst e
    exact .inl ⟨⟨xs, q, Nat.le_refl _⟩, hd σ H p⟩
theorem for_range {lo : Int} {n : Nat} {g : TG} {tb : TS} {D : Ends} {σ : St} {H : Hp} (Pv : Nat → St → Hp → Prop) (h0 : Pv 0 σ H)
    (hs : ∀ i σ H, i < n → Pv i σ H → g (.int (lo + i)) σ H fun σ2 H2 => tb { D with nx := Pv (i + 1), ct := Pv (i + 1), bk := D.nx } σ2 H2) (hd : ∀ σ H, Pv n σ H → D.nx σ H) :
    ∃ W : Nat → Nat → St → Hp → Prop, (∃ m, W 0 m σ H) ∧ ∀ i m σ H, W i m σ H →
      ((Itr lo n).stop i H ∧ D.nx σ H) ∨ ((Itr lo n).go i H ∧ ∃ N : St → Hp → Prop, (∀ σ' H', N σ' H' → ∃ m', m' < m ∧ W (i + 1) m' σ' H') ∧ ∀ x H', (Itr lo n).yld i H x H' → g x σ H' fun σ2 H2 => tb { D with nx := N, ct := N, bk := D.nx } σ2 H2) := by
  refine ⟨fun i m σ H => m = n - i ∧ i ≤ n ∧ Pv i σ H, ⟨n, by simp, Nat.zero_le _, h0⟩, ?_⟩
  rintro i m σ H ⟨rfl, hi, p⟩
  by_cases hlt : i < n
  · refine .inr ⟨hlt, Pv (i + 1), fun σ' H' p' => ⟨n - (i + 1), by omega, rfl, hlt, p'⟩, fun x H' y => ?_⟩
    obtain ⟨e, y⟩ := y
    subst e y
    exact hs i σ _ hlt p
  · have e : i = n := by omega
    subst e
    exact .inl ⟨Nat.le_refl _, hd σ H p⟩
end L2

namespace L2
open PySem PySem.Spec PyProof.Rows

abbrev R2 := V → V → Hp → VK → Prop
def OpR (X : Cx) (f : Value → Value → Sem Value) (r : R2) : Prop :=
  ∀ (pins : List (Addr × Obj)) (s : Shared) (σ : St) (H : Hp) (x y : V) (v u : Value) (Q : VK), Inv X pins σ H s → RelV x v → RelV y u → r x y H Q →
    wpAny (model X.prog X.w) X.A (f v u) (EP X pins σ Q) X.xe s
def UnR (X : Cx) (f : Value → Sem Value) (r : V → Hp → VK → Prop) : Prop :=
  ∀ (pins : List (Addr × Obj)) (s : Shared) (σ : St) (H : Hp) (x : V) (v : Value) (Q : VK), Inv X pins σ H s → RelV x v → r x H Q →
    wpAny (model X.prog X.w) X.A (f v) (EP X pins σ Q) X.xe s
def CallR (X : Cx) (f : Value) (r : List V → Hp → VK → Prop) : Prop :=
  ∀ (pins : List (Addr × Obj)) (s : Shared) (σ : St) (H : Hp) (xs : List V) (us : List Value) (Q : VK), Inv X pins σ H s → Vals xs us → r xs H Q →
    wpAny (model X.prog X.w) X.A (call f us) (EP X pins σ Q) X.xe s
def tOp (r : R2) (ta tb : TE) : TE := fun σ H Q => ta σ H fun x H1 => tb σ H1 fun y H2 => r x y H2 Q
def tUn (r : V → Hp → VK → Prop) (ta : TE) : TE := fun σ H Q => ta σ H fun x H1 => r x H1 Q
def rI (C : Int → Int → Prop) (g : Int → Int → V) : R2 := fun x y H Q => ∃ i j, x = .int i ∧ y = .int j ∧ C i j ∧ Q (g i j) H
def rI0 (g : Int → Int → V) : R2 := fun x y H Q => ∃ i j, x = .int i ∧ y = .int j ∧ Q (g i j) H
def rU (g : Int → V) : V → Hp → VK → Prop := fun x H Q => ∃ i, x = .int i ∧ Q (g i) H

section
variable {X : Cx} {a b c : Expr} {ta tb tc : TE} {pos : Pos}

theorem binT (ha : PE X a ta) (hb : PE X b tb) {pins : List (Addr × Obj)} {s : Shared} {σ : St} {H : Hp} {R : V → V → Hp → Prop} (I : Inv X pins σ H s)
    (h : ta σ H fun x H1 => tb σ H1 fun y H2 => R x y H2) {Q : Value → Shared → Prop} {f : Value → Value → Sem Value}
    (hf : ∀ v u s2 x y H2, Inv X pins σ H2 s2 → RelV x v → RelV y u → R x y H2 → wpAny (model X.prog X.w) X.A (f v u) Q X.xe s2) :
    wpAny (model X.prog X.w) X.A (eval a X.env) (fun v s₁ => wpAny (model X.prog X.w) X.A (eval b X.env) (fun u s₂ => wpAny (model X.prog X.w) X.A (f v u) Q X.xe s₂) X.xe s₁) X.xe s := by
  refine thn (ha pins s σ H _ I h) fun v s1 ⟨x, H1, I1, r1, q1⟩ => ?_
  refine thn (hb pins s1 σ H1 _ I1 q1) fun u s2 ⟨y, H2, I2, r2, q2⟩ => ?_
  exact hf v u s2 x y H2 I2 r1 r2 q2

theorem pe_op {op : Operator} {r : R2} (ho : OpR X (binaryOp op) r) (ha : PE X a ta) (hb : PE X b tb) : PE X (.BinOp a op b pos) (tOp r ta tb) := by
  intro pins s σ H Q I h
  exact wpAny_BinOp (binT ha hb I h fun v u s2 x y H2 I2 rx ry q => ho pins s2 σ H2 x y v u Q I2 rx ry q)
theorem pe_un {op : UnaryOp} {r : V → Hp → VK → Prop} (ho : UnR X (unaryOp op) r) (ha : PE X a ta) : PE X (.UnaryOp op a pos) (tUn r ta) := by
  intro pins s σ H Q I h
  exact UnaryOp_ (thn (ha pins s σ H _ I h) fun v s1 ⟨x, H1, I1, r1, q1⟩ => ho pins s1 σ H1 x v Q I1 r1 q1)
theorem opI {f : Value → Value → Sem Value} {C : Int → Int → Prop} {g : Int → Int → Int}
    (rule : ∀ (i j : Int) (t u : Tok) (s : Shared) (Q : Value → Shared → Prop) (E : Value → Shared → Prop), C i j → Q (.int (g i j) s.toks) { s with toks := s.toks + 1 } → wpAny (model X.prog X.w) X.A (f (.int i t) (.int j u)) Q E s) :
    OpR X f (rI C fun i j => .int (g i j)) := by
  intro pins s σ H x y v u Q I rx ry h
  obtain ⟨i, j, rfl, rfl, hc, q⟩ := h
  obtain ⟨t, rfl⟩ := rx
  obtain ⟨t', rfl⟩ := ry
  exact rule i j t t' s _ _ hc ⟨.int (g i j), H, I.tok _, ⟨_, rfl⟩, q⟩
theorem opI0 {f : Value → Value → Sem Value} {g : Int → Int → Int}
    (rule : ∀ (i j : Int) (t u : Tok) (s : Shared) (Q : Value → Shared → Prop) (E : Value → Shared → Prop), Q (.int (g i j) s.toks) { s with toks := s.toks + 1 } → wpAny (model X.prog X.w) X.A (f (.int i t) (.int j u)) Q E s) :
    OpR X f (rI0 fun i j => .int (g i j)) := by
  intro pins s σ H x y v u Q I rx ry h
  obtain ⟨i, j, rfl, rfl, q⟩ := h
  obtain ⟨t, rfl⟩ := rx
  obtain ⟨t', rfl⟩ := ry
  exact rule i j t t' s _ _ ⟨.int (g i j), H, I.tok _, ⟨_, rfl⟩, q⟩
theorem opB0 {f : Value → Value → Sem Value} {g : Int → Int → Bool}
    (rule : ∀ (i j : Int) (t u : Tok) (s : Shared) (Q : Value → Shared → Prop) (E : Value → Shared → Prop), Q (.bool (g i j)) s → wpAny (model X.prog X.w) X.A (f (.int i t) (.int j u)) Q E s) :
    OpR X f (rI0 fun i j => .bl (g i j)) := by
  intro pins s σ H x y v u Q I rx ry h
  obtain ⟨i, j, rfl, rfl, q⟩ := h
  obtain ⟨t, rfl⟩ := rx
  obtain ⟨t', rfl⟩ := ry
  exact rule i j t t' s _ _ ⟨.bl (g i j), H, I, rfl, q⟩

def CDiv (i j : Int) : Prop := 0 < j ∧ j < 1073741824
def CPow (i j : Int) : Prop := 0 ≤ j ∧ j ≤ 1000000 ∧ i.natAbs < 2 ^ 64
def CMul (i j : Int) : Prop := (-(2 ^ 64) < i ∧ i < 2 ^ 64) ∨ (-(2 ^ 64) < j ∧ j < 2 ^ 64)
theorem CMul.ok {i j : Int} (h : CMul i j) : IntMulOk i j := by
  rcases h with ⟨h1, h2⟩ | ⟨h1, h2⟩
  · exact .of_left (intBits_le_64 h1 h2)
  · exact .of_right (intBits_le_64 h1 h2)
theorem op_add : OpR X (binaryOp .Add) (rI0 fun i j => .int (i + j)) := opI0 fun _ _ _ _ _ _ _ q => add_int q
theorem op_sub : OpR X (binaryOp .Sub) (rI0 fun i j => .int (i - j)) := opI0 fun _ _ _ _ _ _ _ q => sub_int q
theorem op_mul : OpR X (binaryOp .Mult) (rI CMul fun i j => .int (i * j)) := opI fun _ _ _ _ _ _ _ hc q => mul_int q hc.ok
theorem op_fdiv : OpR X (binaryOp .FloorDiv) (rI CDiv fun i j => .int (i / j)) := opI fun i j _ _ _ _ _ hc q => by
  have h1 : (0 : Int) < j := hc.1
  have h2 : j < 1073741824 := hc.2
  exact floordiv_int (by omega) (by rw [Int.fdiv_eq_ediv_of_nonneg i (by omega)]; exact q) (.inl (PyProof.noPylong_small (by omega)))
theorem op_mod : OpR X (binaryOp .Mod) (rI (fun _ j => 0 < j) fun i j => .int (i % j)) := opI fun i j _ _ _ _ _ hc q => by
  have h1 : (0 : Int) < j := hc
  exact mod_int' (by omega) (by rw [Int.fmod_eq_emod_of_nonneg i (by omega)]; exact q)
theorem unI {f : Value → Sem Value} {g : Int → Int}
    (rule : ∀ (i : Int) (t : Tok) (s : Shared) (Q : Value → Shared → Prop) (E : Value → Shared → Prop), Q (.int (g i) s.toks) { s with toks := s.toks + 1 } → wpAny (model X.prog X.w) X.A (f (.int i t)) Q E s) :
    UnR X f (rU fun i => .int (g i)) := by
  intro pins s σ H x v Q I rx h
  obtain ⟨i, rfl, q⟩ := h
  obtain ⟨t, rfl⟩ := rx
  exact rule i t s _ _ ⟨.int (g i), H, I.tok _, ⟨_, rfl⟩, q⟩
theorem un_neg : UnR X (unaryOp .USub) (rU fun i => .int (-i)) := unI fun _ _ _ _ _ q => neg_int q
end

/-- the scalars that == tells apart as data does -/
def scal : V → V → Bool
  | .non, .non => true | .non, .int _ => true | .int _, .non => true | .non, .bl _ => true | .bl _, .non => true | .non, .str _ => true | .str _, .non => true
  | .int _, .int _ => true | .bl _, .bl _ => true | .str _, .str _ => true | .byt _, .byt _ => true
  | .int _, .str _ => true | .str _, .int _ => true | .bl _, .str _ => true | .str _, .bl _ => true
  | _, _ => false
def rEq : R2 := fun x y H Q => scal x y = true ∧ Q (.bl (decide (x = y))) H
def rNe : R2 := fun x y H Q => scal x y = true ∧ Q (.bl (!decide (x = y))) H

theorem dec_int {i j : Int} : decide (V.int i = V.int j) = (i == j) := by
  rw [Bool.eq_iff_iff]
  simp
theorem dec_bl {i j : Bool} : decide (V.bl i = V.bl j) = (i == j) := by
  rw [Bool.eq_iff_iff]
  simp
theorem dec_str {i j : Str} : decide (V.str i = V.str j) = (i == j) := by
  rw [Bool.eq_iff_iff]
  simp
theorem dec_byt {i j : Array UInt8} : decide (V.byt i = V.byt j) = (i.toList == j.toList) := by
  rw [Bool.eq_iff_iff]
  cases i
  cases j
  simp

section
variable {X : Cx} {a b c : Expr} {ta tb tc : TE} {pos : Pos}
theorem fin_bl {pins : List (Addr × Obj)} {σ : St} {H : Hp} {s : Shared} {Q : VK} {k k' : Bool} (I : Inv X pins σ H s) (q : Q (.bl k) H) (e : k = k') : EP X pins σ Q (.bool k') s := by
  subst e
  exact ⟨.bl k, H, I, rfl, q⟩
theorem op_eq : OpR X (compareOp .Eq) rEq := by
  intro pins s σ H x y v u Q I rx ry h
  obtain ⟨hs, q⟩ := h
  cases x with
  | non =>
    cases rx
    cases y with
    | non => cases ry; exact PySem.EqNone.eq_none_none (fin_bl I q (by simp))
    | bl j => cases ry; exact PySem.EqNone.eq_none_bool (fin_bl I q (by simp))
    | int j => obtain ⟨t', rfl⟩ := ry; exact PySem.EqNone.eq_none_int (fin_bl I q (by simp))
    | str j => obtain ⟨t', rfl⟩ := ry; exact PySem.EqNone.eq_none_str (fin_bl I q (by simp))
    | _ => exact absurd (show false = true from hs) Bool.false_ne_true
  | bl i =>
    cases rx
    cases y with
    | non => cases ry; exact PySem.EqNone.eq_bool_none (fin_bl I q (by simp))
    | bl j => cases ry; exact eq_bool (fin_bl I q dec_bl)
    | str j => obtain ⟨t', rfl⟩ := ry; exact PySem.EqMixed.eq_bool_str (fin_bl I q (by simp))
    | _ => exact absurd (show false = true from hs) Bool.false_ne_true
  | int i =>
    obtain ⟨t, rfl⟩ := rx
    cases y with
    | non => cases ry; exact PySem.EqNone.eq_int_none (fin_bl I q (by simp))
    | int j => obtain ⟨t', rfl⟩ := ry; exact eq_int (fin_bl I q dec_int)
    | str j => obtain ⟨t', rfl⟩ := ry; exact PySem.EqMixed.eq_int_str (fin_bl I q (by simp))
    | _ => exact absurd (show false = true from hs) Bool.false_ne_true
  | str i =>
    obtain ⟨t, rfl⟩ := rx
    cases y with
    | non => cases ry; exact PySem.EqNone.eq_str_none (fin_bl I q (by simp))
    | bl j => cases ry; exact PySem.EqMixed.eq_str_bool (fin_bl I q (by simp))
    | int j => obtain ⟨t', rfl⟩ := ry; exact PySem.EqMixed.eq_str_int (fin_bl I q (by simp))
    | str j => obtain ⟨t', rfl⟩ := ry; exact eq_str (fin_bl I q dec_str)
    | _ => exact absurd (show false = true from hs) Bool.false_ne_true
  | byt i =>
    obtain ⟨t, rfl⟩ := rx
    cases y with
    | byt j => obtain ⟨t', rfl⟩ := ry; exact PySem.W.eq_bytes (fin_bl I q dec_byt)
    | _ => exact absurd (show false = true from hs) Bool.false_ne_true
  | _ => cases y <;> exact absurd (show false = true from hs) Bool.false_ne_true
theorem op_ne : OpR X (compareOp .NotEq) rNe := by
  intro pins s σ H x y v u Q I rx ry h
  obtain ⟨hs, q⟩ := h
  cases x with
  | non =>
    cases rx
    cases y with
    | non => cases ry; exact PySem.EqNone.ne_none_none (fin_bl I q (by simp))
    | bl j => cases ry; exact PySem.EqNone.ne_none_bool (fin_bl I q (by simp))
    | int j => obtain ⟨t', rfl⟩ := ry; exact PySem.EqNone.ne_none_int (fin_bl I q (by simp))
    | str j => obtain ⟨t', rfl⟩ := ry; exact PySem.EqNone.ne_none_str (fin_bl I q (by simp))
    | _ => exact absurd (show false = true from hs) Bool.false_ne_true
  | bl i =>
    cases rx
    cases y with
    | non => cases ry; exact PySem.EqNone.ne_bool_none (fin_bl I q (by simp))
    | bl j => cases ry; exact ne_bool (fin_bl I q (congrArg not dec_bl))
    | str j => obtain ⟨t', rfl⟩ := ry; exact PySem.EqMixed.ne_bool_str (fin_bl I q (by simp))
    | _ => exact absurd (show false = true from hs) Bool.false_ne_true
  | int i =>
    obtain ⟨t, rfl⟩ := rx
    cases y with
    | non => cases ry; exact PySem.EqNone.ne_int_none (fin_bl I q (by simp))
    | int j => obtain ⟨t', rfl⟩ := ry; exact ne_int (fin_bl I q (congrArg not dec_int))
    | str j => obtain ⟨t', rfl⟩ := ry; exact PySem.EqMixed.ne_int_str (fin_bl I q (by simp))
    | _ => exact absurd (show false = true from hs) Bool.false_ne_true
  | str i =>
    obtain ⟨t, rfl⟩ := rx
    cases y with
    | non => cases ry; exact PySem.EqNone.ne_str_none (fin_bl I q (by simp))
    | bl j => cases ry; exact PySem.EqMixed.ne_str_bool (fin_bl I q (by simp))
    | int j => obtain ⟨t', rfl⟩ := ry; exact PySem.EqMixed.ne_str_int (fin_bl I q (by simp))
    | str j => obtain ⟨t', rfl⟩ := ry; exact ne_str (fin_bl I q (congrArg not dec_str))
    | _ => exact absurd (show false = true from hs) Bool.false_ne_true
  | byt i =>
    obtain ⟨t, rfl⟩ := rx
    cases y with
    | byt j => obtain ⟨t', rfl⟩ := ry; exact PySem.W.ne_bytes (fin_bl I q (congrArg not dec_byt))
    | _ => exact absurd (show false = true from hs) Bool.false_ne_true
  | _ => cases y <;> exact absurd (show false = true from hs) Bool.false_ne_true

theorem op_lt : OpR X (compareOp .Lt) (rI0 fun i j => .bl (decide (i < j))) := opB0 fun _ _ _ _ _ _ _ q => lt_int q
theorem op_le : OpR X (compareOp .LtE) (rI0 fun i j => .bl (decide (i ≤ j))) := opB0 fun _ _ _ _ _ _ _ q => le_int q
theorem op_gt : OpR X (compareOp .Gt) (rI0 fun i j => .bl (decide (j < i))) := opB0 fun _ _ _ _ _ _ _ q => gt_int q
theorem op_ge : OpR X (compareOp .GtE) (rI0 fun i j => .bl (decide (j ≤ i))) := opB0 fun _ _ _ _ _ _ _ q => ge_int q
theorem op_notN : OpR X (compareOp .IsNot) (fun x y H Q => y = .non ∧ Q (.bl (!decide (x = .non))) H) := by
  intro pins s σ H x y v u Q I rx ry h
  obtain ⟨rfl, q⟩ := h
  cases ry
  refine isnot_none_gen (fin_bl I q ?_)
  cases x <;> first
    | (cases rx; rfl)
    | (obtain ⟨t, rfl⟩ := rx; rfl)

theorem OpR.or {f : Value → Value → Sem Value} {r r' : R2} (h : OpR X f r) (h' : OpR X f r') : OpR X f (fun x y H Q => r x y H Q ∨ r' x y H Q) := by
  intro pins s σ H x y v u Q I rx ry q
  rcases q with q | q
  · exact h pins s σ H x y v u Q I rx ry q
  · exact h' pins s σ H x y v u Q I rx ry q

theorem nomark (b : Expr) {op : CmpOp} (h : op ≠ .In := by decide) (h2 : op ≠ .NotIn := by decide) : behindInMarks op b = false := by
  have e1 : (op == CmpOp.In) = false := by cases op <;> first | rfl | exact absurd rfl h
  have e2 : (op == CmpOp.NotIn) = false := by cases op <;> first | rfl | exact absurd rfl h2
  cases b <;> simp [behindInMarks, e1, e2]
theorem pe_cmpR {op : CmpOp} {r : R2} (ho : OpR X (compareOp op) r) (ha : PE X a ta) (hb : PE X b tb) (hm : behindInMarks op b = false) : PE X (.Compare a [op] [b] pos) (tOp r ta tb) := by
  intro pins s σ H Q I h
  exact wpAny_Compare1 (binT ha hb I h fun v u s2 x y H2 I2 rx ry q => ho pins s2 σ H2 x y v u Q I2 rx ry q) hm
theorem line63 : (sizeLine : Nat) < 2 ^ 63 := by rw [sizeLine_eq]; decide
theorem op_add_str : OpR X (binaryOp .Add) (fun x y H Q => ∃ i j, x = .str i ∧ y = .str j ∧ i.length + j.length ≤ sizeLine ∧ Q (.str (i ++ j)) H) := by
  intro pins s σ H x y v u Q I rx ry h
  obtain ⟨i, j, rfl, rfl, hz, q⟩ := h
  obtain ⟨t, rfl⟩ := rx
  obtain ⟨t', rfl⟩ := ry
  exact add_str (fun t' tk => ⟨.str (i ++ j), H, I.tok _, ⟨_, rfl⟩, q⟩) hz
theorem vals1 {x : V} {us : List Value} (r : Vals [x] us) : ∃ u, us = [u] ∧ RelV x u := by
  cases r with
  | cons r1 r2 => cases r2; exact ⟨_, rfl, r1⟩
theorem vals2 {x y : V} {us : List Value} (r : Vals [x, y] us) : ∃ u w', us = [u, w'] ∧ RelV x u ∧ RelV y w' := by
  cases r with
  | cons r1 r2 =>
    cases r2 with
    | cons r3 r4 => cases r4; exact ⟨_, _, rfl, r1, r3⟩
theorem call_min2 (hc : X.calm = true) : CallR X (.builtin "min") (fun xs H Q => ∃ i j, xs = [.int i, .int j] ∧ Q (.int (if j < i then j else i)) H) := by
  intro pins s σ H xs us Q I r h
  obtain ⟨i, j, rfl, q⟩ := h
  obtain ⟨u, w', rfl, ⟨t, rfl⟩, ⟨t', rfl⟩⟩ := vals2 r
  refine min_two_ints (I.ok.hd hc) fun h' tk k => ⟨_, H, I.kept k, ?_, q⟩
  by_cases hj : j < i
  · rw [if_pos hj, if_pos hj]; exact ⟨_, rfl⟩
  · rw [if_neg hj, if_neg hj]; exact ⟨_, rfl⟩
end
end L2

namespace L2
open PySem PySem.Spec PyProof.Rows

structure ObjM (h : Heap) (x dx C : Addr) (mA : Str → Option Value) : Prop where
  obj : h.get? x = some (PySem.W.instObj C dx)
  ns : h.Ns1 dx mA
  ne : dx ≠ x

theorem lookIn_ns {h : Heap} {dx : Addr} {mA : Str → Option Value} (n : h.Ns1 dx mA) : ∃ od, h.get? dx = some od ∧ ∀ name, PySem.W.lookIn name od = some (mA name) := by
  obtain ⟨o, es, ep, ho, hd, hk, _, hm⟩ := n
  refine ⟨o, ho, fun name => ?_⟩
  have e := hm name
  unfold nsFind findBy at e
  rw [← Array.find?_toList] at e
  unfold PySem.W.lookIn
  rw [hd]
  dsimp only
  split
  · rename_i y q
    rw [q] at e
    exact congrArg some e
  · rename_i q
    rw [q] at e
    have a : es.toList.any (·.refKey) = false := by
      rw [List.any_eq_false]
      intro y hy
      obtain ⟨z, t, hkey⟩ := hk y (Array.mem_toList_iff.mp hy)
      simp [DictEntry.refKey, hkey]
    have a' : ¬ es.toList.any (·.refKey) = true := by rw [a]; exact Bool.false_ne_true
    rw [if_neg a']
    exact congrArg some e

theorem ObjM.look {h : Heap} {x dx C : Addr} {mA : Str → Option Value} (I : ObjM h x dx C mA) : ∃ od, PySem.W.InstAt h x (PySem.W.instObj C dx) C (some od) ∧ ∀ name, PySem.W.lookIn name od = some (mA name) :=
  let ⟨od, ho, hl⟩ := lookIn_ns I.ns
  ⟨od, ⟨I.obj, rfl, rfl, ho⟩, hl⟩

section
variable {prog : Program} {w : World} {A : Around} {E : Value → Shared → Prop} {s : Shared} {K : PySem.W.Frag} {x dx C f : Addr} {mA : Str → Option Value} {name : Str} {v : Value}

theorem get_map {expr : Bool} {Q : Value → Shared → Prop} (X : K.In s.heap) (I : ObjM s.heap x dx C mA) (hg : PySem.W.plainGet K C name = true) (hh : PySem.W.hasDictIn K C = true)
    (ha : PySem.W.findIn K (.ref C) name = some none) (hv : mA name = some v) (hv' : PySem.W.handedIn v = true) (h : Q v { s with toks := s.toks + 1 }) :
    wpAny (model prog w) A (getAttr (.ref x) name expr) Q E s := by
  obtain ⟨od, J, hl⟩ := I.look
  exact PySem.W.get_value X J (PySem.W.plainGet_of hg).1 (PySem.W.findObj_own hh ha rfl (by rw [hl, hv])) hv' h

theorem get_meth {pl : Sem Bool} {Q : Value × List Value → Shared → Prop} (X : K.In s.heap) (I : ObjM s.heap x dx C mA) (hg : PySem.W.plainGet K C name = true)
    (hf : PySem.W.findIn K (.ref C) name = some (some (.ref f))) (ht : PySem.W.isFn K (.ref f) = true) (hv : mA name = none) (h : Q (.ref f, [.ref x]) s) :
    wpAny (model prog w) A (getMethod (.ref x) name pl) Q E s := by
  obtain ⟨od, J, hl⟩ := I.look
  exact PySem.W.method_fn X J (PySem.W.plainGet_of hg).1 (PySem.W.plainGet_of hg).2 hf (beq_iff_eq.mp ht) (by show (PySem.W.lookIn name od).map (·.isSome) = some false; rw [hl, hv]; rfl) h

theorem set_map {ns : List Str} {Q : Unit → Shared → Prop} (X : K.In s.heap) (I : ObjM s.heap x dx C mA)
    (hs : PySem.W.findIn K (.ref C) "__setattr__" = some (some (.builtin "object.__setattr__"))) (hp : PySem.W.plainOver K C = true) (ht : PySem.W.takerIn K C name = some none) (hh : PySem.W.hasDictIn K C = true)
    (hw : PySem.Within mA ns) (hsz : ns.length ≤ sizeLine)
    (h : ∀ h', ObjM h' x dx C (fun y => if y = name then some v else mA y) → Heap.SameBut dx s.heap h' → Q () { s with heap := h', toks := s.toks + 2 }) :
    wpAny (model prog w) A (setAttr (.ref x) name v) Q E s := by
  obtain ⟨od, J, hl⟩ := I.look
  refine PySem.W.set_plain X J hs (PySem.W.osa_open (s := { s with toks := s.toks + 1 }) (r := none) X J hp ht fun b => ?_)
  obtain ⟨cd, hc, hd'⟩ := PySem.W.any_some hh
  have hx : s.heap.get? x = some ⟨.ref C, some dx, .plain, #[]⟩ := I.obj
  refine wpAny_bind (wpAny_pure (wpAny_bind (wpAny_bind (wpAny_loadPart hx (wpAny_bind (PySem.W.Looks.here (s := { s with toks := s.toks + 1 }) (PySem.W.looks_clsIn X hc) ?_))))))
  rw [hd']
  refine wpAny_pure (a := some dx) (wpAny_bind (wpAny_pure (wpAny_bind ?_)))
  refine wpAny_nsSet1 (s := { s with toks := s.toks + 1 }) I.ns fun h' hn2 hs2 => ?_
  obtain ⟨oD, esD, epD, hoD, hdD, hcD⟩ := hn2.count (PySem.Within.cons name v hw)
  refine wpAny_bind (wpAny_lookBehind hoD (by rw [hdD]; exact pastItsLine_dict (Nat.le_trans hcD (by rw [List.length_cons]; omega))) ?_)
  exact wpAny_pure (h _ ⟨(hs2.2 _ (Ne.symm I.ne)).trans I.obj, hn2, I.ne⟩ hs2)

theorem make_map {R : Result → Shared → Prop} {vs : List Value} {kw : List (Str × Value)} (X : K.In s.heap) (hm : PySem.W.makesIn K C = true)
    (hi : PySem.W.findIn K (.ref C) "__init__" = some (some (.ref f))) (hf : PySem.W.typeIn K (.ref f) = some (.type "function"))
    (h : codeAny (model prog w) (A.under (.builtin "type.__call__" ⟨.ref C :: vs, kw⟩)) (.call (.ref f) ⟨.ref (s.heap.objs.size + 1) :: vs, kw⟩) (PySem.W.InitBack (s.heap.objs.size + 1) R)
      { s with heap := (s.heap.push PySem.W.emptyDict).push (PySem.W.instObj C s.heap.objs.size) }) :
    codeAny (model prog w) A (.call (.ref C) ⟨vs, kw⟩) R s := by
  obtain ⟨hh, g, d, t, os⟩ := s
  exact PySem.W.make_core (PySem.W.makes_of X hm) (PySem.W.looks_findIn X hi) (fun self => PySem.W.bind_fn X self hf) (.inl rfl) h
end

def putF (f : Str) (v : V) : List (Str × V) → List (Str × V)
  | [] => [(f, v)]
  | (g, x) :: r => if g = f then (g, v) :: r else (g, x) :: putF f v r
theorem lookup_putF (f g : Str) (v : V) : ∀ fs : List (Str × V), (putF f v fs).lookup g = if g = f then some v else fs.lookup g
  | [] => by
    show List.lookup g [(f, v)] = _
    by_cases h : g = f
    · have hb : (g == f) = true := beq_iff_eq.mpr h
      simp only [List.lookup, hb, if_pos h]
    · have hb : (g == f) = false := beq_eq_false_iff_ne.mpr h
      simp only [List.lookup, hb, if_neg h]
  | (k, x) :: r => by
    have ih := lookup_putF f g v r
    rw [show putF f v ((k, x) :: r) = (if k = f then (k, v) :: r else (k, x) :: putF f v r) from rfl]
    by_cases hk : k = f
    · rw [if_pos hk]
      by_cases h : g = k
      · have hb : (g == k) = true := beq_iff_eq.mpr h
        simp only [List.lookup, hb, if_pos (h.trans hk)]
      · have hb : (g == k) = false := beq_eq_false_iff_ne.mpr h
        simp only [List.lookup, hb, if_neg (fun e : g = f => h (e.trans hk.symm))]
    · rw [if_neg hk]
      by_cases h : g = k
      · have hb : (g == k) = true := beq_iff_eq.mpr h
        simp only [List.lookup, hb, if_neg (fun e : g = f => hk (h.symm.trans e))]
      · have hb : (g == k) = false := beq_eq_false_iff_ne.mpr h
        simp only [List.lookup, hb]
        exact ih
theorem keys_putF (f : Str) (v : V) : ∀ fs : List (Str × V), f ∈ (putF f v fs).map (·.1) ∧ ∀ g, g ∈ fs.map (·.1) → g ∈ (putF f v fs).map (·.1)
  | [] => ⟨by simp [putF], fun g h => by simp at h⟩
  | (k, x) :: r => by
    obtain ⟨i1, i2⟩ := keys_putF f v r
    rw [show putF f v ((k, x) :: r) = (if k = f then (k, v) :: r else (k, x) :: putF f v r) from rfl]
    by_cases hk : k = f
    · rw [if_pos hk]
      subst hk
      exact ⟨by simp, fun g h => by simpa using h⟩
    · rw [if_neg hk]
      refine ⟨?_, fun g h => ?_⟩
      · rw [List.map_cons]
        exact List.mem_cons_of_mem _ i1
      · rw [List.map_cons] at h ⊢
        rcases List.mem_cons.mp h with e | e
        · exact List.mem_cons.mpr (.inl e)
        · exact List.mem_cons_of_mem _ (i2 g e)
theorem length_putF (f : Str) (v : V) : ∀ fs : List (Str × V), (putF f v fs).length ≤ fs.length + 1
  | [] => by simp [putF]
  | (k, x) :: r => by
    have ih := length_putF f v r
    rw [show putF f v ((k, x) :: r) = (if k = f then (k, v) :: r else (k, x) :: putF f v r) from rfl]
    by_cases hk : k = f
    · rw [if_pos hk, List.length_cons, List.length_cons]; omega
    · rw [if_neg hk, List.length_cons, List.length_cons]; omega

theorem RelO.some_of {v : V} {o : Option Value} (r : RelO (some v) o) : ∃ u, o = some u ∧ RelV v u := by
  cases o with
  | none => exact (show False from r).elim
  | some u => exact ⟨u, rfl, r⟩
theorem RelO.none_of {o : Option Value} (r : RelO none o) : o = none := by
  cases o with
  | none => rfl
  | some u => exact (show False from r).elim
theorem handed_of {v : V} {u : Value} (r : RelV v u) : PySem.W.handedIn u = true := by
  cases v with
  | non => cases (show u = Value.none from r); rfl
  | bl b => cases (show u = Value.bool b from r); rfl
  | int i => obtain ⟨t, e⟩ := (show ∃ t, u = Value.int i t from r); cases e; rfl
  | str x => obtain ⟨t, e⟩ := (show ∃ t, u = Value.str x t from r); cases e; rfl
  | byt b => obtain ⟨t, e⟩ := (show ∃ t, u = Value.bytes b t from r); cases e; rfl
  | flt b => obtain ⟨t, e⟩ := (show ∃ t, u = Value.float b t from r); cases e; rfl
  | ref a => cases (show u = Value.ref a from r); rfl
  | ty n => cases (show u = Value.type n from r); rfl

section
variable {P : Program} {w : World} {H H' : Hp} {h h' : Heap} {a C dx : Addr} {fs fs' : List (Str × V)}
theorem ins_get (hok : HOk P w H h) (e : H a = some (.ins C dx fs)) : ∃ mA, ObjM h a dx C mA ∧ (∀ f, RelO (fs.lookup f) (mA f)) ∧ PySem.Within mA (fs.map (·.1)) ∧ fs.length ≤ 1000 ∧ H dx = some (.own a) := by
  obtain ⟨d, z, ne, ob, mA, n, r, q⟩ := (show ObjOk P w H h a (.ins C dx fs) from hok a _ e)
  exact ⟨mA, ⟨ob, n, ne⟩, r, q, z, d⟩
end

structure Cls (K : PySem.W.Frag) (C : Addr) : Prop where
  pg : PySem.W.plainGet K C Str.empty = true
  hd : PySem.W.hasDictIn K C = true
  po : PySem.W.plainOver K C = true
  sa : PySem.W.findIn K (.ref C) "__setattr__" = some (some (.builtin "object.__setattr__"))
theorem Cls.get {K : PySem.W.Frag} {C : Addr} (c : Cls K C) (f : Str) : PySem.W.plainGet K C f = true := c.pg
def NoAttr (K : PySem.W.Frag) (C : Addr) (f : Str) : Prop := PySem.W.findIn K (.ref C) f = some none
theorem NoAttr.taker {K : PySem.W.Frag} {C : Addr} {f : Str} (n : NoAttr K C f) : PySem.W.takerIn K C f = some none := by
  unfold PySem.W.takerIn
  rw [show PySem.W.findIn K (.ref C) f = some none from n]
  rfl
structure Meth (K : PySem.W.Frag) (C : Addr) (m : Str) (f : Addr) : Prop where
  at_ : PySem.W.findIn K (.ref C) m = some (some (.ref f))
  fn : PySem.W.isFn K (.ref f) = true
  kp : PySem.W.keepIn K (.ref f) = true

section
variable {X : Cx} {pins : List (Addr × Obj)} {σ : St} {H : Hp} {s : Shared} {a C dx : Addr} {fs : List (Str × V)} {f : Str} {v : V} {A : Around} {E : Value → Shared → Prop}

theorem getattr_ok {b : Bool} {Q : Value → Shared → Prop} (I : Inv X pins σ H s) (e : H a = some (.ins C dx fs)) (c : Cls X.K C) (n : NoAttr X.K C f) (l : fs.lookup f = some v)
    (h : ∀ u s', Inv X pins σ H s' → RelV v u → Q u s') : wpAny (model X.prog X.w) A (getAttr (.ref a) f b) Q E s := by
  obtain ⟨mA, O, r, _, _, _⟩ := ins_get I.hok e
  obtain ⟨u, hu, ru⟩ := RelO.some_of (v := v) (o := mA f) (by rw [← l]; exact r f)
  exact get_map I.kIn O (c.get f) c.hd n hu (handed_of ru) (h u _ (I.tok _) ru)

theorem getmeth_ok {m : Str} {g : Addr} {pl : Sem Bool} {Q : Value × List Value → Shared → Prop} (I : Inv X pins σ H s) (e : H a = some (.ins C dx fs)) (c : Cls X.K C) (k : Meth X.K C m g) (l : fs.lookup m = none)
    (h : Q (.ref g, [.ref a]) s) : wpAny (model X.prog X.w) A (getMethod (.ref a) m pl) Q E s := by
  obtain ⟨mA, O, r, _, _, _⟩ := ins_get I.hok e
  have hn : mA m = none := RelO.none_of (by rw [← l]; exact r m)
  exact get_meth I.kIn O (c.get m) k.at_ k.fn hn h

theorem setattr_ok {y : V} {u : Value} {Q : Unit → Shared → Prop} (I : Inv X pins σ H s) (e : H a = some (.ins C dx fs)) (c : Cls X.K C) (n : NoAttr X.K C f) (hl : fs.length < 1000) (ry : RelV y u)
    (h : ∀ s', Inv X pins σ (upd H a (.ins C dx (putF f y fs))) s' → Q () s') : wpAny (model X.prog X.w) A (setAttr (.ref a) f u) Q E s := by
  obtain ⟨mA, O, r, wi, _, ho⟩ := ins_get I.hok e
  have hz : (fs.map (·.1)).length ≤ sizeLine := by rw [List.length_map, sizeLine_eq]; omega
  refine set_map I.kIn O c.sa c.po n.taker c.hd wi hz fun h' O' sb => h _ ?_
  have hd : ∃ o, h'.get? dx = some o := let ⟨o, _, _, e', _⟩ := O'.ns; ⟨o, e'⟩
  refine I.write (x := a) (e := dx) (by rw [e]; exact True.intro) (.inr ho) (fun b q hb z => (sb.2 b hb).trans z) hd ?_
  refine ⟨by rw [upd_ne O.ne]; exact ho, ?_, O.ne, O'.obj, _, O'.ns, fun g => ?_, fun g hg => ?_⟩
  · have := length_putF f y fs; omega
  · show RelO ((putF f y fs).lookup g) (if g = f then some u else mA g)
    rw [lookup_putF]
    by_cases q : g = f
    · rw [if_pos q, if_pos q]; exact ry
    · rw [if_neg q, if_neg q]; exact r g
  · by_cases q : g = f
    · rw [q]; exact (keys_putF f y fs).1
    · refine (keys_putF f y fs).2 g (wi g fun z => hg ?_)
      show (if g = f then some u else mA g) = none
      rw [if_neg q]; exact z

theorem Inv.made (I : Inv X pins σ H s) : Inv X pins σ (upd (upd H s.heap.objs.size (.own (s.heap.objs.size + 1))) (s.heap.objs.size + 1) (.ins C s.heap.objs.size []))
    { s with heap := (s.heap.push PySem.W.emptyDict).push (PySem.W.instObj C s.heap.objs.size) } := by
  have e1 : (s.heap.push PySem.W.emptyDict).get? s.heap.objs.size = some PySem.W.emptyDict := Heap.get?_push_size s.heap rfl
  have e2 : ((s.heap.push PySem.W.emptyDict).push (PySem.W.instObj C s.heap.objs.size)).get? (s.heap.objs.size + 1) = some (PySem.W.instObj C s.heap.objs.size) := by
    have := Heap.get?_push_size (s.heap.push PySem.W.emptyDict) (o := PySem.W.instObj C s.heap.objs.size) rfl
    rwa [Heap.size_push] at this
  have e3 : (s.heap.push PySem.W.emptyDict).Ns s.heap.objs.size (fun _ => none) := ⟨PySem.W.emptyDict, #[], _, e1, rfl, (fun e he => absurd he (by simp)), fun _ => rfl⟩
  have I1 := I.laid (a := s.heap.objs.size) (o := .own (s.heap.objs.size + 1)) (h' := s.heap.push PySem.W.emptyDict) (t' := s.toks) (fun b u q => Heap.get?_push_of_some _ q) (Nat.le_refl _) ⟨_, e1⟩
  refine I1.laid (a := s.heap.objs.size + 1) (o := .ins C s.heap.objs.size []) (t' := s.toks) (fun b u q => Heap.get?_push_of_some _ q) (Nat.le_of_eq (Heap.size_push _ _)) ?_
  have ne : s.heap.objs.size ≠ s.heap.objs.size + 1 := Nat.ne_of_lt (Nat.lt_succ_self _)
  refine ⟨by rw [upd_ne ne, upd_same], Nat.zero_le _, ne, e2, fun _ => none, (Heap.Ns1.of_empty e3).at fun o q => Heap.get?_push_of_some _ q, fun _ => True.intro, fun y hy => absurd rfl hy⟩

theorem attr_of {prog : Program} {w : World} {env : Env} {e : Expr} {f : Str} {pos : Pos} {s : Shared} {Q : Value → Shared → Prop} (hb : attributeBase e f env (eval e env) = eval e env)
    (h : wpAny (model prog w) A (eval e env) (fun o s₁ => wpAny (model prog w) A (getAttr o f true) Q E s₁) E s) : wpAny (model prog w) A (eval (.Attribute e f pos) env) Q E s :=
  Attribute_any_ h (by rw [arm_eval_Attribute, hb])
end

def InOp (X : Cx) (op : Operator) (rd : V → V → Hp → VK → Prop) : Prop :=
  ∀ (pins : List (Addr × Obj)) (s : Shared) (σ : St) (H : Hp) (x y : V) (u v : Value) (Q : VK), Inv X pins σ H s → RelV x u → RelV y v → rd x y H Q → wpAny (model X.prog X.w) X.A (inplaceOp op u v) (EP X pins σ Q) X.xe s
section
variable {X : Cx} {o e value : Expr} {f : Str} {pos pos' tpos : Pos} {ta tv : TE}
def rAdd : V → V → Hp → VK → Prop := fun x y H Q => ∃ i j, x = .int i ∧ y = .int j ∧ Q (.int (i + j)) H
def rSub : V → V → Hp → VK → Prop := fun x y H Q => ∃ i j, x = .int i ∧ y = .int j ∧ Q (.int (i - j)) H
theorem in_add : InOp X .Add rAdd := by
  rintro pins s σ H x y u v Q I rx ry ⟨i, j, rfl, rfl, q⟩
  obtain ⟨t, rfl⟩ := (show ∃ t, u = Value.int i t from rx)
  obtain ⟨t', rfl⟩ := (show ∃ t', v = Value.int j t' from ry)
  exact PyProof.Rows.iadd_int ⟨.int (i + j), H, I.tok _, ⟨_, rfl⟩, q⟩
theorem in_sub : InOp X .Sub rSub := by
  rintro pins s σ H x y u v Q I rx ry ⟨i, j, rfl, rfl, q⟩
  obtain ⟨t, rfl⟩ := (show ∃ t, u = Value.int i t from rx)
  obtain ⟨t', rfl⟩ := (show ∃ t', v = Value.int j t' from ry)
  exact PyProof.Rows.isub_int ⟨.int (i - j), H, I.tok _, ⟨_, rfl⟩, q⟩

end

section
variable {X : Cx} {pins : List (Addr × Obj)} {σ : St} {H : Hp} {s : Shared} {A : Around} {E : Value → Shared → Prop} {Q : Value → Shared → Prop} {c : Value} {b : Bool}
end
end L2

namespace L2
open PySem PySem.Spec PyProof.Rows

structure Room (k : Nat) (A : Around) : Prop where
  hd : A.handled = none
  dp : A.depth + 3 * k + 5 < recursionLimit
  un : A.units + 16 * k + 200 < cLine
theorem Room.mono {j k : Nat} {A : Around} (r : Room k A) (h : j ≤ k) : Room j A := ⟨r.hd, by have := r.dp; omega, by have := r.un; omega⟩
theorem Room.deeper {k : Nat} {A : Around} (r : Room (k + 1) A) (env : Env) : Room k (A.deeper env) :=
  ⟨r.hd, by have := r.dp; show A.depth + 1 + 3 * k + 5 < _; omega, by have := r.un; show A.units + 3 + 16 * k + 200 < _; omega⟩
theorem Room.in1 {k : Nat} {A : Around} (r : Room (k + 1) A) : Room k A.in1 :=
  ⟨r.hd, by have := r.dp; show A.depth + 3 * k + 5 < _; omega, by have := r.un; show A.units + 1 + 16 * k + 200 < _; omega⟩
theorem make_depth {A : Around} {C : Addr} {us : List Value} {kw : List (Str × Value)} : (A.under (.builtin "type.__call__" ⟨.ref C :: us, kw⟩)).depth = A.depth + 1 := by
  first | rfl | simp [Around.under, Code.weight, Code.isCreation, Code.isGuard, Code.isCaller, Code.frames, Code.isFrame, guardIds]
theorem make_units {A : Around} {C : Addr} {us : List Value} {kw : List (Str × Value)} : (A.under (.builtin "type.__call__" ⟨.ref C :: us, kw⟩)).units = A.units + 1 := by
  first | rfl | simp [Around.under, Code.cUnits, Code.frames, Code.isFrame]
theorem Room.make {k : Nat} {A : Around} (r : Room (k + 1) A) (C : Addr) (us : List Value) (kw : List (Str × Value)) : Room k (A.under (.builtin "type.__call__" ⟨.ref C :: us, kw⟩)) :=
  ⟨r.hd, by have := r.dp; rw [make_depth]; omega, by have := r.un; rw [make_units]; omega⟩
theorem Room.depth {k : Nat} {A : Around} (r : Room k A) : A.depth < recursionLimit := by have := r.dp; omega
theorem Room.units {k : Nat} {A : Around} (r : Room k A) : A.units + 64 < cLine := by have := r.un; omega
def tNil : TA := fun _ H Q => Q [] H
def tCons (ta : TE) (tr : TA) : TA := fun σ H Q => ta σ H fun x H1 => tr σ H1 fun xs H2 => Q (x :: xs) H2
section
variable {X : Cx} {e : Expr} {es : List Expr} {te : TE} {t : TA} {pos : Pos}
theorem pa_nil : PA X [] tNil := fun _ _ _ _ H Q I h => Calls.spliced_nil ⟨[], H, I, .nil, h⟩
theorem pa_cons (ha : PE X e te) (hr : PA X es t) (hs : starEach (e :: es) X.env = (false, eval e X.env) :: starEach es X.env := by rfl) : PA X (e :: es) (tCons te t) := by
  intro pos pins s σ H Q I h
  rw [hs]
  show wpAny _ _ (spliced ((false, eval e X.env) :: backTo pos (starEach es X.env))) _ _ s
  refine Calls.spliced_cons (thn (ha pins s σ H _ I h) fun u s1 ⟨x, H1, I1, r1, q1⟩ => ?_)
  exact thn (hr pos pins s1 σ H1 _ I1 q1) fun us s2 ⟨xs, H2, I2, r2, q2⟩ => ⟨x :: xs, H2, I2, .cons r1 r2, q2⟩

def tTup (t : TA) : TE := fun σ H Q => t σ H fun xs H1 => xs.length ≤ sizeLine ∧ ∀ p, H1 p = none → Q (.ref p) (upd H1 p (.tup xs))
def tLst (t : TA) : TE := fun σ H Q => t σ H fun xs H1 => xs.length ≤ sizeLine ∧ ∀ p, H1 p = none → Q (.ref p) (upd H1 p (.lst xs))
theorem pe_tup {x1} (h : PA X es t) : PE X (.Tuple es x1 pos) (tTup t) := by
  intro pins s σ H Q I hq
  refine wpAny_Tuple_spliced (thn (h pos pins s σ H _ I hq) fun us s1 ⟨xs, H1, I1, r, z, q⟩ => ⟨by rw [← r.length]; exact z, ?_⟩)
  have hf : H1 s1.heap.objs.size = none := I1.hok.fresh (Nat.le_refl _)
  refine ⟨.ref s1.heap.objs.size, upd H1 s1.heap.objs.size (.tup xs), I1.laid (t' := s1.toks) (fun b u e => Heap.get?_push_of_some _ e) (Nat.le_refl _) ?_, rfl, q _ hf⟩
  exact ⟨z, us, r, ⟨_, Heap.get?_push_size _ rfl, rfl, _, rfl⟩⟩
theorem pe_lst (h : PA X es t) : PE X (.List es pos) (tLst t) := by
  intro pins s σ H Q I hq
  refine wpAny_List_spliced (thn (h pos pins s σ H _ I hq) fun us s1 ⟨xs, H1, I1, r, z, q⟩ => ⟨by rw [← r.length]; exact z, ?_⟩)
  have hf : H1 s1.heap.objs.size = none := I1.hok.fresh (Nat.le_refl _)
  refine ⟨.ref s1.heap.objs.size, upd H1 s1.heap.objs.size (.lst xs), I1.laid (t' := s1.toks) (fun b u e => Heap.get?_push_of_some _ e) (Nat.le_refl _) ?_, rfl, q _ hf⟩
  exact ⟨z, us, 0, r, Heap.get?_push_size _ rfl⟩
end

/-- a def's promise: the bound arguments in the parameters' order, the heap, the wanted end, the wanted exception -/
abbrev Sp := List V → Hp → VK → XK → Prop
abbrev CXT := List Env → Hp → Shared → XK → Value → Shared → Prop

structure Env0 (P : Program) (w : World) (K : PySem.W.Frag) (mg : Str → Option Value) (base : Heap) (A : Around) (outer : List Env) (s : Shared) (H : Hp) : Prop where
  frames : A.frames = some outer
  mod : Mod K mg base
  bs : ∀ b o, base.get? b = some o → s.heap.get? b = some o ∧ H b = none
  bsz : base.objs.size ≤ s.heap.objs.size
  funs : s.heap.FunFrames base outer
  frf : ∀ b ∈ frs outer, H b = none
  hok : HOk P w H s.heap
  bare : AllBare s.gens
def CE (outer : List Env) (P : Program) (w : World) (H : Hp) (s : Shared) (Q : VK) (u : Value) (s' : Shared) : Prop :=
  ∃ v H', s'.os = s.os ∧ AllBare s'.gens ∧ Un (frs outer) [] H H' s.heap s'.heap ∧ HOk P w H' s'.heap ∧ RelV v u ∧ Q v H'
def CR (CX : CXT) (outer : List Env) (P : Program) (w : World) (H : Hp) (s : Shared) (Q : VK) (E : XK) (r : Result) (s' : Shared) : Prop :=
  match r with
  | .ok (.ret u) => CE outer P w H s Q u s'
  | .ok _ => False
  | .error e => CX outer H s E e s'
structure FnOk (P : Program) (w : World) (K : PySem.W.Frag) (mg : Str → Option Value) (base : Heap) (CX : CXT) (k : Nat) (f : Addr) (fd : FuncData) (ps : List Str) (sp : Sp) : Prop where
  len : ∀ vs H Q E, sp vs H Q E → vs.length = ps.length
  run : ∀ (A : Around) (outer : List Env) (s : Shared) (H : Hp) (args : Args) (us : List Value) (vs : List V) (Q : VK) (E : XK), Room k A → Env0 P w K mg base A outer s H → BindsTo s fd args (ps.zip us) → Vals vs us → sp vs H Q E →
    codeAny (model P w) A (.call (.ref f) args) (CR CX outer P w H s Q E) s
theorem Env0.make {P : Program} {w : World} {K : PySem.W.Frag} {mg : Str → Option Value} {base : Heap} {A : Around} {outer : List Env} {s : Shared} {H : Hp} (e : Env0 P w K mg base A outer s H) (C : Addr) (us : List Value) (kw : List (Str × Value)) :
    Env0 P w K mg base (A.under (.builtin "type.__call__" ⟨.ref C :: us, kw⟩)) outer s H := ⟨by first | exact e.frames | (simpa [Around.under, Code.envs, Code.isFrame, pushEnvs] using e.frames), e.mod, e.bs, e.bsz, e.funs, e.frf, e.hok, e.bare⟩
section
variable {X : Cx} {pins : List (Addr × Obj)} {σ : St} {H : Hp} {s s' : Shared}
theorem Inv.env0 (I : Inv X pins σ H s) : Env0 X.prog X.w X.K X.mg X.base X.A X.stack s H :=
  ⟨I.ok.frames, I.ok.mod, I.bs, Nat.le_trans I.ok.bsz I.sz, I.stack, I.stkFree, I.hok, I.bare⟩
theorem Inv.after {Q : VK} {u : Value} (I : Inv X pins σ H s) (h : CE X.stack X.prog X.w H s Q u s') : EP X pins σ Q u s' := by
  obtain ⟨v, H', os, bare, un, hok, r, q⟩ := h
  obtain ⟨hh, g, d, t, os'⟩ := s'
  obtain rfl : os' = s.os := os
  exact ⟨v, H', I.call (h' := hh) (g' := g) (d' := d) (t' := t) (ch := []) un hok bare (fun b z => absurd z (by simp)), r, q⟩
end

def Binds (K : PySem.W.Frag) (fd : FuncData) (ps : List Str) (ds : List Value) : Prop :=
  ∀ (s : Shared) (us : List Value), K.In s.heap → (us ++ ds).length = ps.length → BindsTo s fd ⟨us, []⟩ (ps.zip (us ++ ds))
theorem Binds.all {K : PySem.W.Frag} {fd : FuncData} {ps : List Str} (h : ∀ us : List Value, us.length = ps.length → bindArgs fd ⟨us, []⟩ = pure (ps.zip us)) : Binds K fd ps [] := fun s us _ hl => by
  rw [List.append_nil] at hl ⊢
  exact .of_eq (h us hl)

section
variable {X : Cx} {CX : CXT} {k : Nat} {f C : Addr} {fd : FuncData} {ps : List Str} {sp : Sp} {dvs : List V} {ds : List Value} {E : XK} {x m : Str} {p pos apos : Pos} {e o : Expr} {es : List Expr} {ta : TE} {t : TA}

structure Mk (K : PySem.W.Frag) (C f : Addr) : Prop where
  makes : PySem.W.makesIn K C = true
  init : PySem.W.findIn K (.ref C) "__init__" = some (some (.ref f))
  fn : PySem.W.isFn K (.ref f) = true
  kp : PySem.W.keepIn K (.ref C) = true

end

/-- the values of the keywords, from the left -/
def PK (X : Cx) (kws : List Keyword) (t : TA) : Prop :=
  ∀ (pos : Pos) (pins : List (Addr × Obj)) (s : Shared) (σ : St) (H : Hp) (Q : List V → Hp → Prop), Inv X pins σ H s → t σ H Q → wpAny (model X.prog X.w) X.A (evalAll ((backToKw pos (keywordEach kws X.env)).map (·.2))) (AP X pins σ Q) X.xe s
section
variable {X : Cx} {CX : CXT} {k : Nat} {f C : Addr} {fd : FuncData} {ps ks : List Str} {sp : Sp} {E : XK} {x m : Str} {p pos apos kpos : Pos} {e o : Expr} {es : List Expr} {kws : List Keyword} {te ta : TE} {t tk : TA} {nm : Option Str}
theorem pk_nil : PK X [] tNil := fun _ _ _ _ H Q I h => wpAny_evalAll_nil ⟨[], H, I, .nil, h⟩
theorem pk_cons (ha : PE X e te) (hr : PK X kws t) : PK X (⟨nm, e, kpos⟩ :: kws) (tCons te t) := by
  intro pos pins s σ H Q I h
  show wpAny _ _ (evalAll ((do let v ← eval e X.env; standAt pos; pure v) :: (backToKw pos (keywordEach kws X.env)).map (·.2))) _ _ s
  refine wpAny_evalAll_cons (wpAny_bind (thn (ha pins s σ H _ I h) fun u s1 ⟨x, H1, I1, r1, q1⟩ => wpAny_bind (wpAny_standAt (wpAny_pure ?_))))
  exact thn (hr pos pins s1 σ H1 _ I1 q1) fun us s2 ⟨xs, H2, I2, r2, q2⟩ => ⟨x :: xs, H2, I2, .cons r1 r2, q2⟩

variable {g : List Value → List Value → List Value} {gV : List V → List V → List V}
end

/-- names: the parameters first -/
structure FnScope (N P : List Str) (sc : Scope) : Prop where
  kind : sc.kind = .function
  co : sc.isCoroutine = false
  gen : sc.isGenerator = false
  nd : N.Nodup
  pre : N.take P.length = P
  par : ∀ x ∈ P, sc.names.lookup x = some .local ∨ sc.names.lookup x = some .cell
  nofree : ∀ y ∈ sc.names, y.2 ≠ .free

theorem bindL_out {kindOf : Str → Option NameKind} {x : Str} : ∀ {binds : List (Str × Value)} {m : Str → Option Value}, (∀ v, (x, v) ∉ binds) → bindL kindOf binds m x = m x
  | [], _, _ => rfl
  | (n, v) :: r, m, h => by
    unfold bindL
    rw [bindL_out fun w hw => h w (List.mem_cons_of_mem _ hw)]
    split
    · have : x ≠ n := by rintro rfl; exact h v List.mem_cons_self
      simp [this]
    · rfl
theorem bindC_out {kindOf : Str → Option NameKind} {x : Str} : ∀ {binds : List (Str × Value)} {m : Str → Option Value}, (∀ v, (x, v) ∉ binds) → bindC kindOf binds m x = m x
  | [], _, _ => rfl
  | (n, v) :: r, m, h => by
    unfold bindC
    rw [bindC_out fun w hw => h w (List.mem_cons_of_mem _ hw)]
    split
    · rfl
    · have : x ≠ n := by rintro rfl; exact h v List.mem_cons_self
      simp [this]
theorem bindL_get {kindOf : Str → Option NameKind} {x : Str} {v : Value} : ∀ {P : List Str} {vs : List Value} {i : Nat} {m : Str → Option Value}, P.Nodup → P[i]? = some x → vs[i]? = some v → kindOf x = some .local →
    bindL kindOf (P.zip vs) m x = some v
  | [], _, _, _, _, h, _, _ => by simp at h
  | _ :: _, [], _, _, _, _, h, _ => by simp at h
  | p :: P, w :: vs, 0, m, nd, h1, h2, hk => by
    simp at h1 h2; subst h1; subst h2
    show bindL kindOf ((p, w) :: P.zip vs) m p = _
    unfold bindL
    rw [bindL_out fun v hv => (List.nodup_cons.mp nd).1 (List.of_mem_zip hv).1, if_pos hk]
    simp
  | p :: P, w :: vs, i + 1, m, nd, h1, h2, hk => by
    show bindL kindOf ((p, w) :: P.zip vs) m x = _
    unfold bindL
    exact bindL_get (i := i) (List.nodup_cons.mp nd).2 (by simpa using h1) (by simpa using h2) hk
theorem bindC_get {kindOf : Str → Option NameKind} {x : Str} {v : Value} : ∀ {P : List Str} {vs : List Value} {i : Nat} {m : Str → Option Value}, P.Nodup → P[i]? = some x → vs[i]? = some v → kindOf x ≠ some .local →
    bindC kindOf (P.zip vs) m x = some v
  | [], _, _, _, _, h, _, _ => by simp at h
  | _ :: _, [], _, _, _, _, h, _ => by simp at h
  | p :: P, w :: vs, 0, m, nd, h1, h2, hk => by
    simp at h1 h2; subst h1; subst h2
    show bindC kindOf ((p, w) :: P.zip vs) m p = _
    unfold bindC
    rw [bindC_out fun v hv => (List.nodup_cons.mp nd).1 (List.of_mem_zip hv).1, if_neg hk]
    simp
  | p :: P, w :: vs, i + 1, m, nd, h1, h2, hk => by
    show bindC kindOf ((p, w) :: P.zip vs) m x = _
    unfold bindC
    exact bindC_get (i := i) (List.nodup_cons.mp nd).2 (by simpa using h1) (by simpa using h2) hk

def start (N : List Str) (vs : List V) : St := vs.map some ++ List.replicate (N.length - vs.length) none

def cxOf (CX : CXT) (P : Program) (w : World) (K : PySem.W.Frag) (mg : Str → Option Value) (base : Heap) (N : List Str) (qual : Str) (scope : Scope) (f : Addr) (cd : Value) (A : Around) (outer : List Env) (s : Shared) (H : Hp) (E : XK) : Cx where
  prog := P
  w := w
  K := K
  mg := mg
  base := base
  A := A.deeper (envOfC qual scope s.heap.objs.size f cd)
  N := N
  s₀ := s
  H₀ := H
  env := envOfC qual scope s.heap.objs.size f cd
  outer := outer
  stack := envOfC qual scope s.heap.objs.size f cd :: outer
  ex := []
  calm := true
  fn := fun _ => true
  pn := []
  xe := fun e s' => wpAny (model P w) (A.deeper (envOfC qual scope s.heap.objs.size f cd)) (leaving (envOfC qual scope s.heap.objs.size f cd) e) (fun _ s'' => CX outer H s E e s'') (fun e' s'' => CX outer H s E e' s'') s'

theorem cell_has {sc : Scope} {n : Nat} {x : Str} (h : sc.names.lookup x = some .cell) : ∃ c, (cellsFrom n sc.names []).lookup x = some c := by
  have q := PySem.W.cellsFrom_some sc.names n [] (.inl h)
  exact Option.isSome_iff_exists.mp q

theorem inv_start {CX : CXT} {P : Program} {w : World} {K : PySem.W.Frag} {mg : Str → Option Value} {base : Heap} {N ps : List Str} {qual : Str} {scope : Scope} {f : Addr} {cd : Value} {A : Around} {outer : List Env} {s s1 : Shared} {H : Hp} {E : XK} {us : List Value} {vs : List V}
    (S : FnScope N ps scope) (hd : A.handled = none) (e0 : Env0 P w K mg base A outer s H) (hl : vs.length = ps.length) (r : Vals vs us)
    (x : InCallC s s.heap.objs.size (bindL (envOfC qual scope s.heap.objs.size f cd).kindOf (ps.zip us) fun _ => none) (cellsFrom (s.heap.objs.size + 1) scope.names []) (bindC (envOfC qual scope s.heap.objs.size f cd).kindOf (ps.zip us) fun _ => none) s1) :
    Inv (cxOf CX P w K mg base N qual scope f cd A outer s H E) [] (start N vs) H s1 := by
  have hpl : ps.length ≤ N.length := by have := congrArg List.length S.pre; rw [List.length_take] at this; omega
  obtain ⟨h1, tk, rfl, hk⟩ := x.done
  have noA : ∀ b : Addr, b ∉ (cxOf CX P w K mg base N qual scope f cd A outer s H E).ex := fun b z => absurd (show b ∈ ([] : List Addr) from z) (by simp)
  refine ⟨⟨e0.mod, S.kind, rfl, rfl, Nat.le_refl _, fun y z c h1 h2 => ?_, fun y hy => ?_, fun y c _ h => ?_, fun _ => hd, Around.frames_deeper e0.frames, .inr ⟨rfl, rfl⟩, fun b z => absurd z (noA b), e0.bs, e0.bsz, fun b _ _ => noA b, fun b z => absurd z (noA b), e0.funs, e0.frf⟩,
    rfl, e0.bare, Un.kept hk, ⟨_, x.toInCall.ns, fun i y v h1 h2 h3 => ?_⟩, fun y c h => ⟨_, x.cell y c h⟩, e0.hok.fresh (Nat.le_refl _), fun y c h => ?_, fun p hp => absurd (show p ∈ ([] : List (Addr × Obj)) from hp) (by simp), e0.hok.kept hk, ?_⟩
  · exact name_of_addr x.apart (PySem.mem_of_lookup h1) (PySem.mem_of_lookup h2)
  · have hy : scope.names.lookup y = some .cell ∨ scope.names.lookup y = some .free := hy
    rcases hy with hy | hy
    · exact cell_has hy
    · exact absurd rfl (S.nofree _ (PySem.mem_of_lookup hy))
  · exact Nat.le_of_lt (x.above y c (PySem.mem_of_lookup h))
  · have hi : i < vs.length := by
      unfold start at h2
      by_cases hi : i < vs.length
      · exact hi
      · rw [List.getElem?_append_right (by simpa using hi)] at h2
        rw [List.getElem?_replicate] at h2
        split at h2 <;> cases h2
    have ha : vs[i]? = some v := by
      unfold start at h2
      rw [List.getElem?_append_left (by simpa using hi), List.getElem?_map] at h2
      cases e : vs[i]? with
      | none => rw [e] at h2; cases h2
      | some a => rw [e] at h2; cases h2; rfl
    obtain ⟨u, hu, rv⟩ := r.get ha
    have hp : ps[i]? = some y := by
      rw [← S.pre, List.getElem?_take_of_lt (by omega)]; exact h1
    have ndP : ps.Nodup := by rw [← S.pre]; exact S.nd.sublist (List.take_sublist _ _)
    refine ⟨u, rv, ?_⟩
    rcases S.par y (List.mem_of_getElem? hp) with k | k
    · exact .inl ⟨k, bindL_get ndP hp hu k⟩
    · obtain ⟨c, e⟩ := cell_has (n := s.heap.objs.size + 1) k
      refine .inr ⟨.inl k, c, e, ?_⟩
      have q := x.cell y c e
      rw [bindC_get ndP hp hu (by show scope.names.lookup y ≠ _; rw [k]; decide)] at q
      exact q
  · exact e0.hok.fresh (Nat.le_of_lt (x.above y c (PySem.mem_of_lookup h)))
  · unfold start
    show _ = N.length
    rw [List.length_append, List.length_map, List.length_replicate]
    omega

theorem fn_of {CX : CXT} {P : Program} {w : World} {K : PySem.W.Frag} {mg : Str → Option Value} {base : Heap} {k : Nat} {f : Addr} {name qual : Str} {params : Arguments} {body : List Stmt} {scope : Scope} {dV kV doc pm cdv ct oc : Value} {an od : Option Addr}
    {osl : Array (Option Value)} {N ps : List Str} {sp : Sp} (lk : K.lookup f = some ⟨oc, od, .func (PySem.W.fnOf name qual params body scope dV kV doc pm an cdv ct), osl⟩) (hcd : PySem.W.codeIn K cdv qual = true) (S : FnScope N ps scope)
    (len : ∀ vs H Q E, sp vs H Q E → vs.length = ps.length)
    (hbody : ∀ (A : Around) (outer : List Env) (s : Shared) (H : Hp) (vs : List V) (Q : VK) (E : XK), Room k (A.deeper (envOfC qual scope s.heap.objs.size f cdv)) → sp vs H Q E →
      ∃ t, PSs (cxOf CX P w K mg base N qual scope f cdv A outer s H E) body t ∧ t { nx := fun _ H' => Q .non H', rt := Q } (start N vs) H) :
    FnOk P w K mg base CX (k + 1) f (PySem.W.fnOf name qual params body scope dV kV doc pm an cdv ct) ps sp := by
  refine ⟨len, fun A outer s H args us vs Q E hr e0 hb r hsp => ?_⟩
  have hl := len _ _ _ _ hsp
  have KX : K.In s.heap := e0.mod.kin.keeps fun b o e => (e0.bs b o e).1
  have lim : s.heap.NoLimit := e0.mod.nolimit.keeps fun b o e => (e0.bs b o e).1
  have hkind : ∀ y ∈ ps.zip us, scope.names.lookup y.1 = some .local ∨ (scope.names.lookup y.1 = some .cell ∧ ((cellsFrom (s.heap.objs.size + 1) scope.names []).lookup y.1).isSome = true) := fun ⟨n, v⟩ hy => by
    rcases S.par n (List.of_mem_zip hy).1 with q | q
    · exact .inl q
    · exact .inr ⟨q, PySem.W.cellsFrom_some _ _ _ (.inl q)⟩
  refine codeAny_call_function hr.depth (KX _ _ lk) rfl S.co S.gen rfl (PySem.W.codeRec_of KX hcd) (hb _ _ _ _ ?_)
  refine wpAny_newFunctionEnv_cells S.kind hkind fun env he s1 x => ?_
  subst he
  refine ⟨lim.keeps x.toInCall.keep, codeAny_func ?_⟩
  obtain ⟨t, ht, hq⟩ := hbody A outer s H vs Q E (hr.deeper _) hsp
  have I : Inv (cxOf CX P w K mg base N qual scope f cdv A outer s H E) [] (start N vs) H s1 := inv_start S hr.hd e0 hl r x
  refine wpAny_mono (ht [] s1 (start N vs) H _ I hq) (fun fl s' hs => ?_) fun e s' hs => hs
  have fin : ∀ {σ' : St} {H' : Hp} {v : V} {u : Value}, Inv (cxOf CX P w K mg base N qual scope f cdv A outer s H E) [] σ' H' s' → RelV v u → Q v H' → CE outer P w H s Q u s' :=
    fun {σ' H' v u} J rv q => ⟨v, H', J.os, J.bare, J.base, J.hok, rv, q⟩
  cases fl with
  | ret u =>
    obtain ⟨v, σ', H', J, rv, q⟩ := hs
    exact fin J rv q
  | next =>
    obtain ⟨σ', H', J, q⟩ := hs
    exact fin (v := V.non) (u := Value.none) J rfl q
  | brk =>
    obtain ⟨_, _, _, q⟩ := hs
    exact False.elim q
  | cont =>
    obtain ⟨_, _, _, q⟩ := hs
    exact False.elim q
end L2

namespace L2
open PySem PySem.Spec PyProof.Rows
section
variable {X : Cx} {x : Str} {p pos : Pos} {e : Expr} {es : List Expr} {t : TA} {id T : String} {r : List V → Hp → VK → Prop}

def tCB (r : List V → Hp → VK → Prop) (t : TA) : TE := fun σ H Q => t σ H fun vs H1 => r vs H1 Q
theorem pe_callB (hc : CallR X (.builtin id) r) (hg : Gl X x) (hm : X.mg x = none) (hv : bootBuiltins x = some (.builtin id)) (ha : PA X (e :: es) t) (hn : x ≠ "__name__" := by decide) (hdb : (x == ("__debug__" : Str)) = false := by decide)
    (he : starEach (e :: es) X.env = (false, eval e X.env) :: starEach es X.env := by rfl) (hpl : (backTo pos (starEach es X.env)).any (·.1) = false := by rfl) : PE X (.Call (.Name x p) (e :: es) [] pos) (tCB r t) := by
  intro pins s σ H Q I h
  refine wpAny_Call_Name_kw (ld_blt I hg hm hv ?_ hn hdb)
  exact PyProof.Rows.callWith_builtin1 (thn (ha pos pins s σ H _ I h) fun us s1 ⟨vs, H1, I1, r1, q1⟩ => hc pins s1 σ H1 vs us Q I1 r1 q1) he hpl
theorem pe_callTy (hc : CallR X (.type T) r) (hg : Gl X x) (hm : X.mg x = none) (hv : bootBuiltins x = some (.type T)) (ha : PA X (e :: es) t) (hn : x ≠ "__name__" := by decide) (hdb : (x == ("__debug__" : Str)) = false := by decide)
    (he : starEach (e :: es) X.env = (false, eval e X.env) :: starEach es X.env := by rfl) (hpl : (backTo pos (starEach es X.env)).any (·.1) = false := by rfl) : PE X (.Call (.Name x p) (e :: es) [] pos) (tCB r t) := by
  intro pins s σ H Q I h
  refine wpAny_Call_Name_kw (ld_blt I hg hm hv ?_ hn hdb)
  exact PyProof.Rows.callWith_type1 (thn (ha pos pins s σ H _ I h) fun us s1 ⟨vs, H1, I1, r1, q1⟩ => hc pins s1 σ H1 vs us Q I1 r1 q1) he hpl
end
end L2

namespace HT
open PySem PyProof.Rows

section
open PySem.SeqAt
open PySem.AutoSeq1 (wpAny_loadPart')
open PySem.MeetsSeq PySem.MeetsSeq2 PySem.MeetsSeq3

end

section
variable {prog : Program} {w : World} {A : Around} {E : Value → Shared → Prop} {s : Shared}

/-- a slice's bound as a place among n (d where it is left out) -/
def sIx (n d : Nat) : Option Int → Nat
  | none => d
  | some v => if v < 0 then (v + (n : Int)).toNat else min v.toNat n
theorem sIx_none (n d : Nat) : sIx n d none = d := rfl
theorem sIx_nat (n d k : Nat) : sIx n d (some (k : Int)) = min k n := by
  show (if (k : Int) < 0 then ((k : Int) + (n : Int)).toNat else min (k : Int).toNat n) = min k n
  rw [if_neg (by omega), Int.toNat_natCast]
end
end HT

namespace L2
open PySem PySem.Spec PyProof.Rows

abbrev TO := St → Hp → (Option Int → Hp → Prop) → Prop
def PO (X : Cx) (e : Option Expr) (t : TO) : Prop :=
  ∀ (pins : List (Addr × Obj)) (s : Shared) (σ : St) (H : Hp) (Q : Option Int → Hp → Prop), Inv X pins σ H s → t σ H Q →
    wpAny (model X.prog X.w) X.A (evalPart e X.env) (fun u s' => ∃ o H', Inv X pins σ H' s' ∧ IsPart u o ∧ Q o H') X.xe s
def tNoPart : TO := fun _ H Q => Q none H
def tPart (t : TE) : TO := fun σ H Q => t σ H fun x H1 => ∃ i, x = .int i ∧ Q (some i) H1

section
variable {X : Cx} {e : Expr} {te : TE} {lo hi : Option Expr} {tl th : TO} {pos p2 : Pos}

theorem po_none : PO X none tNoPart := by
  intro pins s σ H Q I h
  rw [evalPart_none]
  exact wpAny_pure ⟨none, H, I, .none, h⟩
theorem po_some (h : PE X e te) : PO X (some e) (tPart te) := by
  intro pins s σ H Q I hw
  rw [evalPart_some]
  refine thn (h pins s σ H _ I hw) fun u s1 ⟨x, H1, I1, r1, q1⟩ => ?_
  obtain ⟨i, rfl, q⟩ := q1
  obtain ⟨t, rfl⟩ := r1
  exact ⟨some i, H1, I1, .int i t, q⟩

def SlR (X : Cx) (r : V → Option Int → Option Int → Hp → VK → Prop) : Prop :=
  ∀ (pins : List (Addr × Obj)) (s : Shared) (σ : St) (H : Hp) (x : V) (v vl vu : Value) (lo hi : Option Int) (sl : Addr) (Q : VK), Inv X pins σ H s → RelV x v → s.heap.IsSliceOf sl vl vu .none → IsPart vl lo → IsPart vu hi → r x lo hi H Q →
    ∃ T id, typeLookup (.type T) "__getitem__" = pure (some (.builtin id)) ∧ s.TypeIs v T ∧ wpAny (model X.prog X.w) X.A (getItem v (.ref sl)) (EP X pins σ Q) X.xe s
def tSl (r : V → Option Int → Option Int → Hp → VK → Prop) (te : TE) (tl th : TO) : TE := fun σ H Q => te σ H fun x H1 => tl σ H1 fun l H2 => th σ H2 fun u H3 => r x l u H3 Q
theorem pe_slice {r : V → Option Int → Option Int → Hp → VK → Prop} (hr : SlR X r) (he : PE X e te) (hl : PO X lo tl) (hu : PO X hi th) : PE X (.Subscript e (.Slice lo hi none p2) pos) (tSl r te tl th) := by
  intro pins s σ H Q I h
  refine Subscript_ (thn (he pins s σ H _ I h) fun v s1 ⟨x, H1, I1, r1, q1⟩ => ?_)
  refine wpAny_Slice (thn (hl pins s1 σ H1 _ I1 q1) fun vl s2 ⟨l, H2, I2, pl, q2⟩ => thn (hu pins s2 σ H2 _ I2 q2) fun vu s3 ⟨u, H3, I3, pu, q3⟩ => ?_)
  rw [evalPart_none]
  refine wpAny_pure ?_
  have I4 : Inv X pins σ H3 { s3 with heap := s3.heap.push { cls := .type "slice", data := .fields #[vl, vu, .none] } } := I3.kept (t' := s3.toks) fun b ob q => Heap.get?_push_of_some _ q
  obtain ⟨T, id, hT, ht, hg⟩ := hr pins { s3 with heap := s3.heap.push { cls := .type "slice", data := .fields #[vl, vu, .none] } } σ H3 x v vl vu l u s3.heap.objs.size Q I4 r1 (Heap.IsSliceOf.new ..) pl pu q3
  show wpAny (model X.prog X.w) X.A (subscriptTail e (.Slice lo hi none p2) v (.ref s3.heap.objs.size)) (EP X pins σ Q) X.xe { s3 with heap := s3.heap.push { cls := .type "slice", data := .fields #[vl, vu, .none] } }
  exact tail_any (ops := [.ref s3.heap.objs.size, v]) ht hT hg (by with_unfolding_all rfl)

def cutV (xs : List V) (lo hi : Option Int) : List V := (xs.drop (HT.sIx xs.length 0 lo)).take (HT.sIx xs.length xs.length hi - HT.sIx xs.length 0 lo)
theorem cutV_length (xs : List V) (lo hi : Option Int) : (cutV xs lo hi).length ≤ xs.length := by
  unfold cutV
  rw [List.length_take, List.length_drop]
  omega
end
end L2

namespace L2
open PySem PySem.Spec PyProof.Rows

/-- the place that an index of any sign means -/
def ixN (n : Nat) (i : Int) : Option Nat := if 0 ≤ i then (if i < n then some i.toNat else none) else if -(n : Int) ≤ i then some (i + n).toNat else none
def atI {α : Type} (xs : List α) (i : Int) : Option α := (ixN xs.length i).bind fun j => xs[j]?
theorem ixN_seq {n : Nat} {i : Int} {j : Nat} (h : ixN n i = some j) : seqIndex? i n = some j ∧ j < n ∧ -(n : Int) ≤ i ∧ i < n := by
  unfold ixN at h
  by_cases h0 : 0 ≤ i
  · rw [if_pos h0] at h
    by_cases h1 : i < n
    · rw [if_pos h1] at h
      have e : i.toNat = j := Option.some.inj h
      exact ⟨by rw [seqIndex_of h0 h1, e], by omega, by omega, h1⟩
    · rw [if_neg h1] at h; cases h
  · rw [if_neg h0] at h
    by_cases h1 : -(n : Int) ≤ i
    · rw [if_pos h1] at h
      have e : (i + n).toNat = j := Option.some.inj h
      exact ⟨by rw [seqIndex_neg (by omega) h1, e], by omega, h1, by omega⟩
    · rw [if_neg h1] at h; cases h
theorem atI_get {α : Type} {xs : List α} {i : Int} {v : α} (h : atI xs i = some v) : ∃ j, seqIndex? i xs.length = some j ∧ xs[j]? = some v ∧ j < xs.length ∧ -(xs.length : Int) ≤ i ∧ i < xs.length := by
  unfold atI at h
  cases e : ixN xs.length i with
  | none => rw [e] at h; cases h
  | some j =>
    rw [e] at h
    obtain ⟨h1, h2, h3, h4⟩ := ixN_seq e
    exact ⟨j, h1, h, h2, h3, h4⟩
/-- what stands as an index of a plain subscript -/
def PlainIx (b : Expr) : Prop := ∀ o i, subscripted b false o i = operate [o, i] (getItem o i)
def IxR (X : Cx) (r : R2) : Prop :=
  ∀ (value slice : Expr) (pins : List (Addr × Obj)) (s : Shared) (σ : St) (H : Hp) (x y : V) (v u : Value) (Q : VK), Inv X pins σ H s → RelV x v → RelV y u → r x y H Q →
    subscripted slice false v u = operate [v, u] (getItem v u) → wpAny (model X.prog X.w) X.A (subscriptTail value slice v u) (EP X pins σ Q) X.xe s
def MtR (X : Cx) (id : String) (r : V → List V → Hp → VK → Prop) : Prop :=
  ∀ (pins : List (Addr × Obj)) (s : Shared) (σ : St) (H : Hp) (x : V) (xs : List V) (v : Value) (us : List Value) (Q : VK), Inv X pins σ H s → RelV x v → Vals xs us → r x xs H Q →
    wpAny (model X.prog X.w) X.A (call (.builtin id) (v :: us)) (EP X pins σ Q) X.xe s
section
variable {X : Cx} {a b : Expr} {ta tb : TE} {pos : Pos}
theorem IxR.or {r r' : R2} (h : IxR X r) (h' : IxR X r') : IxR X (fun x y H Q => r x y H Q ∨ r' x y H Q) := by
  intro value slice pins s σ H x y v u Q I rx ry q hs
  rcases q with q | q
  · exact h value slice pins s σ H x y v u Q I rx ry q hs
  · exact h' value slice pins s σ H x y v u Q I rx ry q hs
theorem pe_ix {r : R2} (hr : IxR X r) (ha : PE X a ta) (hb : PE X b tb) (hs : PlainIx b) : PE X (.Subscript a b pos) (tOp r ta tb) := by
  intro pins s σ H Q I h
  exact Subscript_ (binT ha hb I h fun v u s2 x y H2 I2 rx ry q => hr a b pins s2 σ H2 x y v u Q I2 rx ry q (hs _ _))

def rIxL (K : PySem.W.Frag) : R2 := fun x y H Q => ∃ p xs i v, x = .ref p ∧ y = .int i ∧ SqL K H p xs ∧ atI xs i = some v ∧ Q v H
def rIxT (K : PySem.W.Frag) : R2 := fun x y H Q => ∃ p xs i v, x = .ref p ∧ y = .int i ∧ SqT K H p xs ∧ atI xs i = some v ∧ Q v H
theorem ix_list : IxR X (rIxL X.K) := by
  intro value slice pins s σ H x y v u Q I rx ry h hs
  obtain ⟨p, xs, i, z, rfl, rfl, hq, he, q⟩ := h
  cases rx
  obtain ⟨t, rfl⟩ := ry
  obtain ⟨its, r, pl, hz⟩ := I.list hq
  obtain ⟨j, h1, h2, h3, h4, h5⟩ := atI_get he
  obtain ⟨w, ew, rw'⟩ := r.get h2
  have hl := r.length
  have hn := line63
  have fin : EP X pins σ Q w s := ⟨z, H, I, rw', q⟩
  by_cases h0 : 0 ≤ i
  · have hj : i.toNat = j := by
      rw [seqIndex_of h0 h5] at h1
      exact Option.some.inj h1
    exact item_listR pl.isList h0 (by omega) (by rw [hj]; simpa using ew) fin hs
  · have hj : (i + (its.toArray.size : Int)).toNat = j := by
      rw [seqIndex_neg (by omega) h4] at h1
      rw [List.size_toArray, ← hl]
      exact Option.some.inj h1
    exact subscriptTail_builtinR (x := w) pl.isList.typeIs slot_list_getitem.lookup
      (wpAny_getItem_list_neg (Q := fun r s' => r = w ∧ EP X pins σ Q r s') pl.isList (by omega) (by rw [List.size_toArray] <;> omega) (by omega) (by rw [hj]; simpa using ew) ⟨rfl, fin⟩) hs
theorem ix_tup : IxR X (rIxT X.K) := by
  intro value slice pins s σ H x y v u Q I rx ry h hs
  obtain ⟨p, xs, i, z, rfl, rfl, hq, he, q⟩ := h
  cases rx
  obtain ⟨t, rfl⟩ := ry
  obtain ⟨its, r, pl, hz⟩ := I.tuple hq
  obtain ⟨j, h1, h2, h3, h4, h5⟩ := atI_get he
  obtain ⟨w, ew, rw'⟩ := r.get h2
  have hl := r.length
  have hn := line63
  have fin : EP X pins σ Q w s := ⟨z, H, I, rw', q⟩
  exact subscriptTail_builtinR (x := w) pl.typeIs slot_tuple_getitem.lookup
    (getItem_tuple (j := j) (Q := fun r s' => r = w ∧ EP X pins σ Q r s') pl (by omega) (by omega) (by rw [List.size_toArray, ← hl]; exact h1) (by simpa using ew) ⟨rfl, fin⟩) hs
/-- the list's object behind a store -/
theorem mapSeq_set (its : List Value) (n j : Nat) (u : Value) : Obj.mapSeq (·.setIfInBounds j u) { cls := .type "list", data := .seq its.toArray n } = { cls := .type "list", data := .seq (its.set j u).toArray n } := by
  simp [Obj.mapSeq]
theorem Inv.lst {pins : List (Addr × Obj)} {σ : St} {H : Hp} {s : Shared} {p : Addr} {xs : List V} (I : Inv X pins σ H s) (h : H p = some (.lst xs)) :
    ∃ (its : List Value) (n : Nat), Vals xs its ∧ s.heap.get? p = some { cls := .type "list", data := .seq its.toArray n } ∧ xs.length ≤ sizeLine := by
  obtain ⟨z, its, n, r, e⟩ := I.hok p _ h
  exact ⟨its, n, r, e, z⟩
theorem Inv.lstUpd {pins : List (Addr × Obj)} {σ : St} {H : Hp} {s : Shared} {p : Addr} {xs ys : List V} {its its' : List Value} {n n' : Nat} {f : Obj → Obj} (I : Inv X pins σ H s) (h : H p = some (.lst xs))
    (ho : s.heap.get? p = some { cls := .type "list", data := .seq its.toArray n }) (hf : f { cls := .type "list", data := .seq its.toArray n } = { cls := .type "list", data := .seq its'.toArray n' }) (r : Vals ys its') (hz : ys.length ≤ sizeLine) (t : Nat) :
    Inv X pins σ (upd H p (.lst ys)) { s with heap := s.heap.update p f, toks := t } := by
  have e : (s.heap.update p f).get? p = some { cls := .type "list", data := .seq its'.toArray n' } := by
    rw [Heap.get?_update_self f ho (by rw [hf] <;> rfl), hf]
  refine I.write (x := p) (e := p) (by rw [h]; trivial) (.inl rfl) (fun b u hb q => (Heap.get?_update_other _ _ (Ne.symm hb)).trans q) ⟨_, e⟩ ?_
  exact ⟨hz, its', n', r, e⟩
def rSetL : V → V → V → Hp → (Hp → Prop) → Prop := fun o i v H Q => ∃ p xs k j, o = .ref p ∧ i = .int k ∧ H p = some (.lst xs) ∧ ixN xs.length k = some j ∧ Q (upd H p (.lst (xs.set j v)))
theorem set_list : PSet X rSetL := by
  intro pins s σ H o i v ov iv u Q I ro ri rv h
  obtain ⟨p, xs, k, j, rfl, rfl, hp, hj, q⟩ := h
  cases ro
  obtain ⟨t, rfl⟩ := ri
  obtain ⟨its, n, r, ho, hz⟩ := I.lst hp
  obtain ⟨h1, h2, h3, h4⟩ := ixN_seq hj
  have hl := r.length
  have hn := line63
  have I' : Inv X pins σ (upd H p (.lst (xs.set j v))) { s with heap := s.heap.update p (Obj.mapSeq (·.setIfInBounds j u)) } :=
    I.lstUpd hp ho (mapSeq_set its n j u) (r.set rv j) (by rw [List.length_set]; exact hz) s.toks
  by_cases h0 : 0 ≤ k
  · have hk : k.toNat = j := by
      rw [seqIndex_of h0 h4] at h1
      exact Option.some.inj h1
    exact PySem.W.ki_setAt ho h0 (by omega) (by rw [List.size_toArray, ← hl]; exact h4) (by rw [hk]; exact ⟨_, I', q⟩)
  · have hk : (k + (its.toArray.size : Int)).toNat = j := by
      rw [seqIndex_neg (by omega) h3] at h1
      rw [List.size_toArray, ← hl]
      exact Option.some.inj h1
    exact PySem.W.ki_setBack ho (by omega) (by rw [List.size_toArray, ← hl]; exact h3) (by omega) (by rw [hk]; exact ⟨_, I', q⟩)

theorem clip_ix (i : Int) (n : Nat) : max 0 (min (if i < 0 then i + (n : Int) else i) (n : Int)) = ((if i < 0 then (i + (n : Int)).toNat else min i.toNat n : Nat) : Int) := by
  by_cases h : i < 0
  · rw [if_pos h, if_pos h, Int.min_eq_left (by omega), Int.max_comm]
    exact (Int.toNat_eq_max _).symm
  · rw [if_neg h, if_neg h]
    obtain ⟨k, rfl⟩ := Int.eq_ofNat_of_zero_le (Int.not_lt.mp h)
    rw [Int.toNat_natCast, Int.max_eq_right (Int.le_min.mpr ⟨Int.natCast_nonneg _, Int.natCast_nonneg _⟩)]
    by_cases q : k ≤ n
    · rw [Nat.min_eq_left q, Int.min_eq_left (Int.ofNat_le.mpr q)]
    · rw [Nat.min_eq_right (Nat.le_of_not_le q), Int.min_eq_right (Int.ofNat_le.mpr (Nat.le_of_not_le q))]
theorem slice_bounds (lo hi : Option Int) (n : Nat) : (sliceBounds lo hi none n).1 = ((HT.sIx n 0 lo : Nat) : Int) ∧ (sliceBounds lo hi none n).2.1 = ((HT.sIx n n hi : Nat) : Int) ∧ (sliceBounds lo hi none n).2.2 = 1 := by
  refine ⟨?_, ?_, rfl⟩
  · cases lo with
    | none => rfl
    | some i => exact clip_ix i n
  · cases hi with
    | none => rfl
    | some i => exact clip_ix i n
theorem slicePick_cut (its : List Value) (lo hi : Option Int) : slicePick its.toArray lo hi none = ((its.drop (HT.sIx its.length 0 lo)).take (HT.sIx its.length its.length hi - HT.sIx its.length 0 lo)).toArray := by
  obtain ⟨h1, h2, h3⟩ := slice_bounds lo hi its.toArray.size
  unfold slicePick
  rw [h1, h2, h3]
  simp only [sliceRange_one, pick_run, List.size_toArray] <;> rfl
def rSlL (K : PySem.W.Frag) : V → Option Int → Option Int → Hp → VK → Prop := fun x lo hi H Q => ∃ a xs, x = .ref a ∧ SqL K H a xs ∧ ∀ p, H p = none → Q (.ref p) (upd H p (.lst (cutV xs lo hi)))
theorem sl_list : SlR X (rSlL X.K) := by
  intro pins s σ H x v vl vu lo hi sl Q I rx hs pl pu h
  obtain ⟨a, xs, rfl, hx, q⟩ := h
  cases rx
  obtain ⟨its, r, ht, hz⟩ := I.list hx
  have hlen := r.length
  refine ⟨"list", _, slot_list_getitem.lookup, ht.isList.typeIs, ?_⟩
  refine wpAny_getItem_list_slice ht.isList hs pl pu .none (by simp) ?_ (by rw [List.size_toArray] <;> omega)
  rw [slicePick_cut, ← hlen]
  refine ⟨.ref s.heap.objs.size, _, I.laid (t' := s.toks) (o := .lst (cutV xs lo hi)) (fun b ob q => Heap.get?_push_of_some _ q) (Nat.le_refl _) ?_, rfl, q _ (I.hok.fresh (Nat.le_refl _))⟩
  exact ⟨Nat.le_trans (cutV_length xs lo hi) hz, _, 0, (r.drop (HT.sIx xs.length 0 lo)).take (HT.sIx xs.length xs.length hi - HT.sIx xs.length 0 lo), Heap.get?_push_size _ rfl⟩

def flatV : V → Bool
  | .non => true
  | .bl _ => true
  | .int _ => true
  | .str _ => true
  | _ => false
def eqV : V → V → Bool
  | .non, .non => true
  | .bl a, .bl b => a == b
  | .bl a, .int b => (if a then 1 else 0) == b
  | .int a, .bl b => a == (if b then 1 else 0)
  | .int a, .int b => a == b
  | .str a, .str b => a == b
  | _, _ => false
theorem eqAt_V {A : Around} {s : Shared} {y x : V} {u v : Value} (ry : RelV y u) (rx : RelV x v) (fy : flatV y = true) (fx : flatV x = true) : SeqAt.EqAt A s u v (eqV y x) := by
  cases y with
  | non =>
    cases ry
    cases x with
    | non => cases rx; exact SeqAt.EqAt.same _
    | bl b => cases rx; exact SeqAt.EqAt.none_bool b
    | int b => obtain ⟨t, rfl⟩ := rx; exact SeqAt.EqAt.none_int b t
    | str b => obtain ⟨t, rfl⟩ := rx; exact SeqAt.EqAt.none_str b t
    | _ => exact absurd (show false = true from fx) Bool.false_ne_true
  | bl a =>
    cases ry
    cases x with
    | non => cases rx; exact SeqAt.EqAt.bool_none a
    | bl b => cases rx; exact SeqAt.EqAt.bool_bool a b
    | int b => obtain ⟨t, rfl⟩ := rx; exact SeqAt.EqAt.bool_int a b t
    | str b => obtain ⟨t, rfl⟩ := rx; exact SeqAt.EqAt.bool_str a b t
    | _ => exact absurd (show false = true from fx) Bool.false_ne_true
  | int a =>
    obtain ⟨t', rfl⟩ := ry
    cases x with
    | non => cases rx; exact SeqAt.EqAt.int_none a t'
    | bl b => cases rx; exact SeqAt.EqAt.int_bool a t' b
    | int b => obtain ⟨t, rfl⟩ := rx; exact SeqAt.EqAt.int_int a t' b t
    | str b => obtain ⟨t, rfl⟩ := rx; exact SeqAt.EqAt.int_str a t' b t
    | _ => exact absurd (show false = true from fx) Bool.false_ne_true
  | str a =>
    obtain ⟨t', rfl⟩ := ry
    cases x with
    | non => cases rx; exact SeqAt.EqAt.str_none a t'
    | bl b => cases rx; exact SeqAt.EqAt.str_bool a t' b
    | int b => obtain ⟨t, rfl⟩ := rx; exact SeqAt.EqAt.str_int a t' b t
    | str b => obtain ⟨t, rfl⟩ := rx; exact SeqAt.EqAt.str_str a t' b t
    | _ => exact absurd (show false = true from fx) Bool.false_ne_true
  | _ => exact absurd (show false = true from fy) Bool.false_ne_true
def eqU (x : V) (u : Value) : Bool := match u with
  | .none => eqV .non x
  | .bool b => eqV (.bl b) x
  | .int i _ => eqV (.int i) x
  | .str z _ => eqV (.str z) x
  | _ => false
theorem eqU_of {x y : V} {u : Value} (r : RelV y u) (f : flatV y = true) : eqU x u = eqV y x := by
  cases y with
  | non => cases r; rfl
  | bl b => cases r; rfl
  | int i => obtain ⟨t, rfl⟩ := r; rfl
  | str z => obtain ⟨t, rfl⟩ := r; rfl
  | _ => exact absurd (show false = true from f) Bool.false_ne_true
theorem any_eqU {x : V} : ∀ {xs : List V} {us : List Value}, Vals xs us → xs.all flatV = true → us.any (eqU x) = xs.any fun y => eqV y x
  | _, _, .nil, _ => rfl
  | y :: xs, u :: us, .cons r t, f => by
    rw [List.all_cons, Bool.and_eq_true] at f
    rw [List.any_cons, List.any_cons, eqU_of r f.1, any_eqU t f.2]
theorem mem_eqAt {A : Around} {s : Shared} {x : V} {v : Value} (rx : RelV x v) (fx : flatV x = true) : ∀ {xs : List V} {us : List Value}, Vals xs us → xs.all flatV = true → ∀ u ∈ us, SeqAt.EqAt A s u v (eqU x u)
  | _, _, .nil, _ => fun u hu => by cases hu
  | y :: xs, u :: us, .cons r t, f => fun u' hu => by
    rw [List.all_cons, Bool.and_eq_true] at f
    rcases List.mem_cons.mp hu with rfl | hu
    · rw [eqU_of r f.1]; exact eqAt_V r rx f.1 fx
    · exact mem_eqAt rx fx t f.2 u' hu
def inV (x : V) (xs : List V) : Bool := xs.any fun y => eqV y x
def rIn (K : PySem.W.Frag) (neg : Bool) : R2 := fun x y H Q => ∃ p xs, y = .ref p ∧ (SqL K H p xs ∨ SqT K H p xs) ∧ flatV x = true ∧ xs.all flatV = true ∧ Q (.bl (if neg then !inV x xs else inV x xs)) H
theorem op_in_seq : OpR X (compareOp .In) (rIn X.K false) := by
  intro pins s σ H x y v u Q I rx ry h
  obtain ⟨p, xs, rfl, hq, fx, fs, q⟩ := h
  cases ry
  rcases hq with hq | hq
  · obtain ⟨its, r, pl, hz⟩ := I.list hq
    refine SeqAt.in_listAt (eqU x) pl.isList (fun w hw => mem_eqAt rx fx r fs w (by simpa using hw)) ⟨.bl _, H, I, rfl, ?_⟩
    rw [show its.toArray.any (eqU x) = its.any (eqU x) by simp, any_eqU r fs]
    exact q
  · obtain ⟨its, r, pl, hz⟩ := I.tuple hq
    refine SeqAt.in_tupleAt (eqU x) pl (fun w hw => mem_eqAt rx fx r fs w (by simpa using hw)) ⟨.bl _, H, I, rfl, ?_⟩
    rw [show its.toArray.any (eqU x) = its.any (eqU x) by simp, any_eqU r fs]
    exact q
theorem call_len_seq : CallR X (.builtin "len") (fun xs H Q => ∃ p ys, xs = [.ref p] ∧ (SqL X.K H p ys ∨ SqT X.K H p ys) ∧ Q (.int ys.length) H) := by
  intro pins s σ H xs us Q I r h
  obtain ⟨p, ys, rfl, hq, q⟩ := h
  obtain ⟨u, rfl, rx⟩ := vals1 r
  cases rx
  have hn := line63
  rcases hq with hq | hq
  · obtain ⟨its, r', pl, hz⟩ := I.list hq
    have hlen := r'.length
    exact Calls.call_len_list pl.isList (by simp only [List.size_toArray] <;> omega) ⟨.int ys.length, H, I.tok _, ⟨s.toks + 1, by rw [List.size_toArray, hlen]⟩, q⟩
  · obtain ⟨its, r', pl, hz⟩ := I.tuple hq
    have hlen := r'.length
    exact len_tuple pl (by simp only [List.size_toArray] <;> omega) ⟨.int ys.length, H, I.tok _, ⟨s.toks + 1, by rw [List.size_toArray, hlen]⟩, q⟩
theorem call_len_str : CallR X (.builtin "len") (fun xs H Q => ∃ z, xs = [.str z] ∧ z.length ≤ sizeLine ∧ Q (.int z.length) H) := by
  intro pins s σ H xs us Q I r h
  obtain ⟨z, rfl, hz, q⟩ := h
  obtain ⟨u, rfl, t, rfl⟩ := vals1 r
  have hn := line63
  exact len_str (by omega) ⟨.int z.length, H, I.tok _, ⟨_, rfl⟩, q⟩
theorem CallR.or {f : Value} {r r' : List V → Hp → VK → Prop} (h : CallR X f r) (h' : CallR X f r') : CallR X f (fun xs H Q => r xs H Q ∨ r' xs H Q) := by
  intro pins s σ H xs us Q I rs q
  rcases q with q | q
  · exact h pins s σ H xs us Q I rs q
  · exact h' pins s σ H xs us Q I rs q
theorem call_list_of : CallR X (.type "list") (fun xs H Q => ∃ p ys, xs = [.ref p] ∧ (SqL X.K H p ys ∨ SqT X.K H p ys) ∧ ∀ l, H l = none → Q (.ref l) (upd H l (.lst ys))) := by
  intro pins s σ H xs us Q I r h
  obtain ⟨p, ys, rfl, hq, q⟩ := h
  obtain ⟨u, rfl, rx⟩ := vals1 r
  cases rx
  have fin : ∀ (its : List Value), Vals ys its → ys.length ≤ sizeLine → ∀ (h' : Heap) (c' : Nat), (∀ b o', s.heap.get? b = some o' → h'.get? b = some o') →
      h'.get? s.heap.objs.size = some { cls := .type "list", dict := none, data := .seq its.toArray c', slots := #[] } → EP X pins σ Q (.ref s.heap.objs.size) { s with heap := h' } := fun its r' hz h' c' kp e =>
    ⟨.ref s.heap.objs.size, _, I.laid (t' := s.toks) kp (Nat.le_refl _) (show ObjOk X.prog X.w _ h' _ (.lst ys) from ⟨hz, its, c', r', e⟩), rfl, q _ (I.hok.fresh (Nat.le_refl _))⟩
  rcases hq with hq | hq
  · obtain ⟨its, r', pl, hz⟩ := I.list hq
    have hlen := r'.length
    obtain ⟨o, ho, hc, n, hd⟩ := pl.isList
    exact call_list_seq p (.inl rfl) ho hc hd (fun h' c' kp e => fin its r' hz h' c' kp e) (by simp only [List.size_toArray] <;> omega)
  · obtain ⟨its, r', pl, hz⟩ := I.tuple hq
    have hlen := r'.length
    obtain ⟨o, ho, hc, n, hd⟩ := pl
    exact call_list_seq p (.inr rfl) ho hc hd (fun h' c' kp e => fin its r' hz h' c' kp e) (by simp only [List.size_toArray] <;> omega)
/-- the value is of that builtin type -/
def tyV (K : PySem.W.Frag) (T : String) (x : V) (H : Hp) : Prop := match x with
  | .str _ => T = "str"
  | .int _ => T = "int"
  | .ref p => (T = "list" ∧ ∃ xs, SqL K H p xs) ∨ (T = "tuple" ∧ ∃ o, K.lookup p = some o ∧ o.cls = .type "tuple" ∧ o.dict = none) ∨
      (T = "dict" ∧ ((∃ kvs, H p = some (.dK kvs)) ∨ ∃ kvs, H p = some (.dT kvs))) ∨ (T = "set" ∧ ∃ S n, H p = some (.set S n))
  | _ => False
theorem tyV_is {pins : List (Addr × Obj)} {σ : St} {H : Hp} {s : Shared} {T : String} {x : V} {v : Value} (I : Inv X pins σ H s) (r : RelV x v) (ty : tyV X.K T x H) :
    s.TypeIs v T ∧ ∀ a, v = .ref a → ∃ ob, s.heap.get? a = some ob ∧ ob.dict = none := by
  cases x with
  | str z =>
    obtain ⟨t, rfl⟩ := r
    cases (show T = "str" from ty)
    exact ⟨typeIs_str s z t, fun _ e => nomatch e⟩
  | int i =>
    obtain ⟨t, rfl⟩ := r
    cases (show T = "int" from ty)
    exact ⟨typeIs_int s i t, fun _ e => nomatch e⟩
  | ref p =>
    cases r
    rcases ty with ⟨rfl, xs, hq⟩ | ⟨rfl, o, hk, hc, hd⟩ | ⟨rfl, hk⟩ | ⟨rfl, S, n, hk⟩
    · obtain ⟨its, _, pl, _⟩ := I.list hq
      refine ⟨pl.isList.typeIs, fun a e => ?_⟩
      cases e
      obtain ⟨o, n, e, c, hd, _⟩ := pl
      exact ⟨o, e, hd⟩
    · refine ⟨⟨o, I.kIn p o hk, hc⟩, fun a e => ?_⟩
      cases e
      exact ⟨o, I.kIn _ o hk, hd⟩
    · have z : ∃ o, s.heap.get? p = some o ∧ o.ExactDict := by
        rcases hk with ⟨kvs, hk⟩ | ⟨kvs, hk⟩
        · obtain ⟨_, _, _, _, o, _, _, e, ex, _⟩ := I.hok p _ hk
          exact ⟨o, e, ex⟩
        · obtain ⟨_, _, _, _, o, _, _, e, ex, _⟩ := I.hok p _ hk
          exact ⟨o, e, ex⟩
      obtain ⟨o, e, ex⟩ := z
      refine ⟨⟨o, e, ex.1⟩, fun a e2 => ?_⟩
      cases e2
      exact ⟨o, e, ex.2.1⟩
    · obtain ⟨o, _, _, _, e, ex, _⟩ := I.hok p _ hk
      refine ⟨⟨o, e, ex.1⟩, fun a e2 => ?_⟩
      cases e2
      exact ⟨o, e, ex.2.1⟩
  | _ => exact False.elim ty
variable {o e : Expr} {es : List Expr} {to : TE} {t : TA} {name : Str} {apos cpos : Pos} {T id : String} {r : V → List V → Hp → VK → Prop}
/- xs.append(e), list.index on a module's tuple .. are MtR facts of 06m -/
end
end L2

namespace L2
open PySem PySem.Spec PyProof.Rows

def MtM (X : Cx) (id : String) (r : V → List V → Hp → VK → Prop) : Prop :=
  ∀ (pins : List (Addr × Obj)) (s : Shared) (σ : St) (H : Hp) (x : V) (xs : List V) (v : Value) (us : List Value) (Q : VK), Inv X pins σ H s → RelV x v → Vals xs us → r x xs H Q →
    wpAny (model X.prog X.w) X.A (call (.builtin id) (v :: us)) (EP X pins σ Q) X.xe s

theorem Vals.one : ∀ {x : V} {us : List Value}, Vals [x] us → ∃ u, us = [u] ∧ RelV x u
  | _, _, .cons r .nil => ⟨_, rfl, r⟩
theorem Vals.eraseIdx : ∀ {xs : List V} {us : List Value} (i : Nat), Vals xs us → Vals (xs.eraseIdx i) (us.eraseIdx i)
  | _, _, _, .nil => .nil
  | _, _, 0, .cons _ t => t
  | _, _, i + 1, .cons r t => .cons r (Vals.eraseIdx i t)
theorem Vals.rep {xs : List V} {us : List Value} (h : Vals xs us) : ∀ k : Nat, Vals (List.replicate k xs).flatten (List.replicate k us).flatten
  | 0 => .nil
  | k + 1 => by
    rw [List.replicate_succ, List.replicate_succ, List.flatten_cons, List.flatten_cons]
    exact Vals.append h (Vals.rep h k)
theorem len_erase {α : Type} : ∀ (l : List α) (i : Nat), (l.eraseIdx i).length ≤ l.length
  | [], _ => Nat.le_refl _
  | _ :: _, 0 => Nat.le_succ _
  | _ :: r, i + 1 => Nat.succ_le_succ (len_erase r i)
theorem foldl_rep (its : List Value) : ∀ (k : Nat) (acc : List Value),
    List.foldl (fun x1 x2 => x1 ++ x2) acc.toArray (List.replicate k its.toArray) = (acc ++ (List.replicate k its).flatten).toArray
  | 0, acc => by simp
  | k + 1, acc => by
    have e : acc.toArray ++ its.toArray = (acc ++ its).toArray := by simp
    have e2 : (acc ++ its) ++ (List.replicate k its).flatten = acc ++ (List.replicate (k + 1) its).flatten := by
      rw [List.replicate_succ, List.flatten_cons, List.append_assoc]
    rw [← e2, ← foldl_rep its k (acc ++ its), ← e, List.replicate_succ, List.foldl_cons]

section
variable {X : Cx} {pins : List (Addr × Obj)} {σ : St} {H : Hp} {s : Shared} {l b : Addr} {xs ys zs : List V}

theorem Inv.lset {its its' : List Value} {n : Nat} {f : Array Value → Array Value} {t' : Nat} (I : Inv X pins σ H s) (hH : H l = some (.lst xs))
    (e : s.heap.get? l = some { cls := .type "list", data := .seq its.toArray n }) (hf : f its.toArray = its'.toArray) (hv : Vals ys its') (hz : ys.length ≤ sizeLine) :
    Inv X pins σ (upd H l (.lst ys)) { s with heap := s.heap.update l (Obj.mapSeq f), toks := t' } := by
  have q := PySem.IsL.update e f
  rw [hf] at q
  refine I.write (x := l) (e := l) (by rw [hH]; exact trivial) (.inl rfl) (fun b' u hb hu => (Heap.get?_update_other s.heap (Obj.mapSeq f) (Ne.symm hb)).trans hu) ⟨_, q⟩ ?_
  exact ⟨hz, its', _, hv, q⟩
theorem Inv.lnew {its : List Value} {t' : Nat} (I : Inv X pins σ H s) (hv : Vals ys its) (hz : ys.length ≤ sizeLine) :
    Inv X pins σ (upd H s.heap.objs.size (.lst ys)) { s with heap := s.heap.push { cls := .type "list", data := .seq its.toArray }, toks := t' } :=
  I.laid (fun _ _ q => Heap.get?_push_of_some _ q) (Nat.le_refl _) ⟨hz, its, 0, hv, Heap.get?_push_size _ rfl⟩
theorem Inv.fresh (I : Inv X pins σ H s) : H s.heap.objs.size = none := I.hok.fresh (Nat.le_refl _)
theorem Inv.lstM (I : Inv X pins σ H s) (hH : H l = some (.lst xs)) : xs.length ≤ sizeLine ∧ ∃ (its : List Value) (n : Nat), Vals xs its ∧ xs.length = its.length ∧ s.heap.get? l = some { cls := .type "list", data := .seq its.toArray n } := by
  obtain ⟨z, its, n, r, e⟩ := I.hok l _ hH
  exact ⟨z, its, n, r, r.length, e⟩

theorem notLongL {n : Nat} (h : n ≤ sizeLine) : Builtin.List.listTooLong n = false := by
  unfold Builtin.List.listTooLong
  exact decide_eq_false (by omega)
end

section
variable {X : Cx}

def rAppend : V → List V → Hp → VK → Prop := fun x vs H Q => ∃ l xs y, x = .ref l ∧ vs = [y] ∧ H l = some (.lst xs) ∧ xs.length < sizeLine ∧ Q .non (upd H l (.lst (xs ++ [y])))
theorem mt_append : MtM X "list.append" rAppend := by
  intro pins s σ H x vs v us Q I rx rv h
  obtain ⟨l, xs, y, rfl, rfl, hH, hz, q⟩ := h
  cases rx
  obtain ⟨u, rfl, ru⟩ := rv.one
  obtain ⟨z, its, n, r, hl, e⟩ := I.lstM hH
  refine call_meets F.slot_list_append ⟨_, e, rfl⟩ F.entry_list_append (F.args_list_append_2 _ _) (PySem.list_append l its.toArray n u (by rw [List.size_toArray]; omega)) ⟨e, ?_⟩
  refine ⟨.non, _, I.lset (its' := its ++ [u]) hH e (by simp) (r.append (.cons ru .nil)) ?_, rfl, q⟩
  rw [List.length_append, List.length_singleton]
  omega

def rExtend : V → List V → Hp → VK → Prop := fun x vs H Q => ∃ l b xs zs, x = .ref l ∧ vs = [.ref b] ∧ H l = some (.lst xs) ∧ H b = some (.lst zs) ∧ xs.length + zs.length ≤ sizeLine ∧ Q .non (upd H l (.lst (xs ++ zs)))
theorem mt_extend : MtM X "list.extend" rExtend := by
  intro pins s σ H x vs v us Q I rx rv h
  obtain ⟨l, b, xs, zs, rfl, rfl, hH, hB, hz, q⟩ := h
  cases rx
  obtain ⟨u, rfl, ru⟩ := rv.one
  cases ru
  obtain ⟨z, its, n, r, hl, e⟩ := I.lstM hH
  obtain ⟨z2, its2, n2, r2, hl2, e2⟩ := I.lstM hB
  have hsz : its.toArray.size + its2.toArray.size ≤ sizeLine := by rw [List.size_toArray, List.size_toArray]; omega
  have hlong : ¬ (!its.toArray.isEmpty && Builtin.List.listTooLong (its.toArray.size + its2.toArray.size)) = true := by
    rw [notLongL hsz, Bool.and_false]
    exact Bool.false_ne_true
  refine call_meets F.slot_list_extend ⟨_, e, rfl⟩ F.entry_list_extend (F.args_list_extend_2 _ _)
    (AutoSeq1.list_extend_list_list_0 l its.toArray n b its2.toArray n2 hlong (by rw [List.size_toArray]; omega) (by omega)) ⟨e, e2, ?_⟩
  refine ⟨.non, _, I.lset (its' := its ++ its2) hH e (by simp) (r.append r2) ?_, rfl, q⟩
  rw [List.length_append]
  omega

def rPopAt : V → List V → Hp → VK → Prop := fun x vs H Q => ∃ l xs i k y, x = .ref l ∧ vs = [.int i] ∧ H l = some (.lst xs) ∧ -(2 ^ 63) ≤ i ∧ i < 2 ^ 63 ∧ seqIndex? i xs.length = some k ∧ xs[k]? = some y ∧ Q y (upd H l (.lst (xs.eraseIdx k)))
theorem mt_popAt : MtM X "list.pop" rPopAt := by
  intro pins s σ H x vs v us Q I rx rv h
  obtain ⟨l, xs, i, k, y, rfl, rfl, hH, h1, h2, hk, hy, q⟩ := h
  cases rx
  obtain ⟨u, rfl, ru⟩ := rv.one
  obtain ⟨t, rfl⟩ := ru
  obtain ⟨z, its, n, r, hl, e⟩ := I.lstM hH
  obtain ⟨w, hw, rw'⟩ := r.get hy
  refine call_meets F.slot_list_pop ⟨_, e, rfl⟩ F.entry_list_pop (F.args_list_pop_2 _ _)
    (MeetsSeq.list_pop_at l its.toArray n i t k w (fitsIndex_both h1 h2) (by rw [List.size_toArray, ← hl]; exact hk) (by rw [← Array.getElem?_toList]; exact hw) (by rw [List.size_toArray]; omega)) ⟨e, ?_⟩
  refine ⟨y, _, I.lset (its' := its.eraseIdx k) hH e ?_ (r.eraseIdx k) ?_, rw', q⟩
  · show its.toArray.eraseIdxIfInBounds k = (its.eraseIdx k).toArray
    rw [List.eraseIdxIfInBounds_toArray]
  · have := len_erase xs k
    omega

def rCat : R2 := fun x y H Q => ∃ l b xs zs, x = .ref l ∧ y = .ref b ∧ H l = some (.lst xs) ∧ H b = some (.lst zs) ∧ xs.length + zs.length ≤ sizeLine ∧ ∀ p, H p = none → Q (.ref p) (upd H p (.lst (xs ++ zs)))
theorem op_cat : OpR X (binaryOp .Add) rCat := by
  intro pins s σ H x y v u Q I rx ry h
  obtain ⟨l, b, xs, zs, rfl, rfl, hH, hB, hz, q⟩ := h
  cases rx
  cases ry
  obtain ⟨z, its, n, r, hl, e⟩ := I.lstM hH
  obtain ⟨z2, its2, n2, r2, hl2, e2⟩ := I.lstM hB
  refine PySem.P.add_list e e2 ?_ (by rw [List.size_toArray, List.size_toArray]; omega)
  have ea : its.toArray ++ its2.toArray = (its ++ its2).toArray := by simp
  rw [ea]
  exact ⟨.ref _, _, I.lnew (t' := s.toks) (r.append r2) (by rw [List.length_append]; omega), rfl, q _ I.fresh⟩
def rRep : R2 := fun x y H Q => ∃ l k xs, x = .ref l ∧ y = .int k ∧ H l = some (.lst xs) ∧ -(2 ^ 63) ≤ k ∧ k < 2 ^ 63 ∧ xs.length * k.toNat ≤ sizeLine ∧
  ∀ p, H p = none → Q (.ref p) (upd H p (.lst (List.replicate k.toNat xs).flatten))
theorem len_rep {α : Type} (xs : List α) (k : Nat) : (List.replicate k xs).flatten.length = k * xs.length := by
  induction k with
  | zero => simp
  | succ k ih => rw [List.replicate_succ, List.flatten_cons, List.length_append, ih, Nat.succ_mul, Nat.add_comm]
theorem op_rep : OpR X (binaryOp .Mult) rRep := by
  intro pins s σ H x y v u Q I rx ry h
  obtain ⟨l, k, xs, rfl, rfl, hH, h1, h2, hz, q⟩ := h
  cases rx
  obtain ⟨t, rfl⟩ := ry
  obtain ⟨z, its, n, r, hl, e⟩ := I.lstM hH
  have hlen : its.toArray.size * k.toNat ≤ sizeLine := by rw [List.size_toArray, ← hl]; exact hz
  have hcap : ¬ its.toArray.size * k.toNat > (2 ^ 63 - 1) / 8 := by
    have : (sizeLine : Nat) ≤ (2 ^ 63 - 1) / 8 := by decide
    omega
  have hfit : ¬ (!Builtin.List.listFitsIndex k) = true := by
    rw [fitsIndex_both h1 h2]
    exact Bool.false_ne_true
  have hlong : ¬ Builtin.List.listTooLong (its.toArray.size * k.toNat) = true := by
    rw [notLongL hlen]
    exact Bool.false_ne_true
  have hnew : List.foldl (fun x1 x2 => x1 ++ x2) #[] (List.replicate (if its.toArray.isEmpty = true then 0 else k.toNat) its.toArray) = (List.replicate k.toNat its).flatten.toArray := by
    have f0 : ∀ m : Nat, List.foldl (fun x1 x2 => x1 ++ x2) #[] (List.replicate m its.toArray) = (List.replicate m its).flatten.toArray := fun m => by
      have := foldl_rep its m []
      rw [List.nil_append] at this
      exact this
    rw [f0]
    cases its with
    | nil => simp
    | cons a r' => rw [if_neg (by simp)]
  refine wpAny_binaryOp_repeat_ref (T := "list") (U := "int") (by decide) ⟨_, e, rfl⟩ (fun s' => typeIs_int s' k t) noFill_list_mul F.fills_int_mul F.slot_int_rmul repeat_list F.slot_int_index.lookup
    (call_meets F.slot_int_rmul (typeIs_int s k t) F.entry_int_rmul (F.args_int_rmul_2 _ _) (int___rmul___int_list k t l its.toArray n)
      ⟨e, rfl, ⟨_, e, rfl⟩, call_meets F.slot_list_mul ⟨_, e, rfl⟩ F.entry_list_mul (F.args_list_mul_2 _ _) (AutoListH.list___mul___list_int_3 l its.toArray n k t hfit hcap hlong) ⟨e, ?_⟩⟩)
  rw [hnew]
  exact ⟨.ref _, _, I.lnew (t' := s.toks) (r.rep k.toNat) (by rw [len_rep, Nat.mul_comm]; exact hz), rfl, q _ I.fresh⟩

end

section
variable {prog : Program} {w : World} {A : Around} {E : Value → Shared → Prop} {s : Shared}
end

section
variable {X : Cx}
end
end L2

namespace Att
open PySem PySem.W PySem.Calls PyProof.Rows

theorem ints_of_wellAll {P : Params} {h : Heap} : ∀ (ns : List Int) (vs : List Value), WellAll P h vs (ns.map WData.int) → IntsAre vs ns := by
  intro ns
  induction ns with
  | nil =>
    intro vs w
    rw [List.map_nil] at w
    cases w
    exact .nil
  | cons n ns ih =>
    intro vs w
    rw [List.map_cons] at w
    cases w with
    | cons a b =>
      cases a
      exact .cons _ _ (ih _ b)

theorem script_of {l : OpenLaw} {n : Nat} (hn : l.most = some n) {P : Params} {h : Heap} {args : List WData} {vals : List Value}
    (hpre : l.row.toRowW.claim.pre args = true) (hwl : WellAll P h vals args) :
    ∃ a vs ns, vals = [Value.ref a] ∧ args = [WData.list (ns.map WData.int)] ∧ h.get? a = some { cls := .type "list", data := .seq vs.toArray } ∧ IntsAre vs ns ∧ ns.length ≤ n := by
  have hsh : WShape.hasAll [] args [.list .int] = true := (pre_splitW hpre).1
  have hc : l.pre.holds [] { args := args } = true := (pre_splitW hpre).2
  obtain ⟨d, r, rfl, h1, h2⟩ := hasAllW_cons hsh
  obtain rfl := hasAllW_nil h2
  obtain ⟨xs, rfl, h3⟩ := hasW_list h1
  obtain ⟨ns, rfl⟩ := items_int h3
  have hlen : ns.length ≤ n := by
    unfold OpenLaw.pre at hc
    have h4 : (WTm.not (.lt (.lit (.int (n : Int))) (.len (.arg 0)))).holds [] { args := [.list (ns.map .int)] } = true := by
      have h4 := (holds_andW hc).1
      rw [hn] at h4
      exact h4
    have h5 := condW_of h4 (w_not (w_lt w_lit (w_len_list (w_arg rfl))))
    rw [List.length_map] at h5
    refine Nat.le_of_not_lt fun q => ?_
    have q' : (n : Int) < ((ns.length : Nat) : Int) := by omega
    first
      | (rw [decide_eq_true q'] at h5; exact absurd h5 (by decide))
      | (simp at h5; omega)
  cases hwl with
  | cons w1 w2 =>
    cases w2
    cases w1 with
    | list ho hall => exact ⟨_, _, ns, rfl, rfl, ho, ints_of_wellAll ns _ hall, hlen⟩

theorem post_true (l : OpenLaw) (args : List WData) : l.row.toRowW.claim.post args (.bool true) args = true :=
  postW_of (r := l.row.toRowW) (X := (true == true))
    (show WShape.has [] (.bool true) .bool = true by first | rfl | decide | simp [WShape.has, WShape.arms, WShape.armsAll])
    (show (WTm.eq .res (.lit (.bool true))).value [] { args := args, res := some (.bool true), after := args } = some (.bool (true == true)) from w_eq_bool (w_res rfl) w_lit) rfl

theorem attach_call {l : OpenLaw} {n : Nat} {q : Program} {loose : List Str} {XP : (Str → Option Value) → Heap → Prop} {YP : World → Heap → Prop} {d : DefRec}
    (hn : l.most = some n) (hdf : d.params.defaults = [])
    (call : ∀ (w : World) (s₀ s₁ : Shared) (mg mb : Str → Option Value) (fa : Addr) (o : Obj) (pm cd doc : Value) (a : Addr) (vs : List Value) (ns : List Int),
      Ground q loose [] XP w s₀ mg mb s₁.heap → YP w s₁.heap →
      s₁.heap.get? fa = some o → o.data = .func (docDef d.name d.params d.body d.scope pm cd doc) → s₁.heap.CodeRec cd d.name → mg d.name = some (.ref fa) →
      s₁.heap.get? a = some { cls := .type "list", data := .seq vs.toArray } → IntsAre vs ns → ns.length ≤ n → s₁.gens = #[] →
      codeAny (model l.prog w) callerA (.call (.ref fa) ⟨[.ref a], []⟩) (fun r s' => r = .ok (.ret (.bool true)) ∧ OldK s₁.heap s'.heap ∧ s'.os = s₁.os ∧ AllBare s'.gens) s₁) :
    WalkO q loose XP YP l.row.toRowW d [] (fun f vs => PySem.call f vs) := by
  intro w s₀ s₁ mg mb G Y fa o pm cd doc dV kV ho hd hcd hD hmg hg args vals as hpre hlay hrd hwl hlo
  obtain rfl : dV = .none := Dflts.none hD hdf
  obtain rfl : kV = .none := Dflts.noKw hD
  obtain ⟨a, vs, ns, rfl, rfl, hobj, hints, hlen⟩ := script_of hn hpre hwl
  refine enter_call (codeAny_mono (call w s₀ s₁ mg mb fa o pm cd doc a vs ns G Y ho (fd_plain hd) hcd hmg hobj hints hlen hg) fun r s' hq => ?_)
  obtain ⟨rfl, h2, h3, h4⟩ := hq
  exact ⟨.inl ⟨.bool true, .bool true, [], rfl, fun _ => rfl, .bool true, post_true l _, fun _ => ⟨List.Pairwise.nil, fun _ hm => (nomatch hm)⟩⟩, h2, h3, h4⟩

section
variable {prog : Program} {w : World} {A : Around} {E : Value → Shared → Prop} {s : Shared} {K : Frag}

def ledger (h : Heap) (L d : Addr) : List (Addr × Obj) := (List.range h.objs.size).filterMap fun a => if a = L ∨ a = d then none else (h.get? a).map fun o => (a, o)
end
end Att

namespace L2
open PySem PySem.Spec PyProof.Rows

theorem vals_ints : ∀ {vs : List Value} {ns : List Int}, IntsAre vs ns → Vals (ns.map V.int) vs
  | _, _, .nil => .nil
  | _, _, .cons n t h => .cons ⟨t, rfl⟩ (vals_ints h)

def Only (H : Hp) : Prop := ∀ b, H b = none ∨ ∃ o xs, H b = some (.frz o (.lst xs))

theorem law_call {P : Program} {w : World} {K : PySem.W.Frag} {mg mb : Str → Option Value} {CX : CXT} {k : Nat} {fa a : Addr} {fd : FuncData} {x : Str} {sp : Sp} {s₁ : Shared} {vs : List Value} {ns : List Int}
    (KX : K.In s₁.heap) (hns : s₁.heap.Ns mainGlobals mg) (hb : s₁.heap.Ns builtinsNs mb) (hbb : ∀ x : Str, x ≠ "__name__" → mb x = bootBuiltins x) (hlim : s₁.heap.NoLimit) (hg : s₁.gens = #[])
    (ha : s₁.heap.get? a = some { cls := .type "list", data := .seq vs.toArray }) (hi : IntsAre vs ns) (hl : ns.length ≤ sizeLine) (hr : Room k callerA)
    (F : ∀ base : Heap, K.In base → base.Ns mainGlobals mg → FnOk P w K mg base CX k fa fd [x] sp) (hbind : ∀ (s : Shared) (u : Value), BindsTo s fd ⟨[u], []⟩ [(x, u)])
    (hsp : ∀ H : Hp, Only H → SqL K H a (ns.map V.int) → sp [.ref a] H (fun v _ => v = .bl true) fun _ _ _ => False)
    (hCX : ∀ H e s', CX [] H s₁ (fun _ _ _ => False) e s' → False) :
    codeAny (model P w) callerA (.call (.ref fa) ⟨[.ref a], []⟩) (fun r s' => r = .ok (.ret (.bool true)) ∧ OldK s₁.heap s'.heap ∧ s'.os = s₁.os ∧ AllBare s'.gens) s₁ := by
  have rv := vals_ints hi
  have lenV := hi.length
  -- from an abstract heap in which nothing but the script may be tracked
  have core : ∀ H : Hp, Only H → SqL K H a (ns.map V.int) → HOk P w H s₁.heap → (∀ b, H b ≠ none → b = a) → (H a ≠ none → K.lookup a = none) →
      codeAny (model P w) callerA (.call (.ref fa) ⟨[.ref a], []⟩) (fun r s' => r = .ok (.ret (.bool true)) ∧ OldK s₁.heap s'.heap ∧ s'.os = s₁.os ∧ AllBare s'.gens) s₁ := by
    intro H hO hS hok hA hK
    have base_of : ∀ {b : Addr} {o : Obj}, s₁.heap.get? b = some o → H b = none → (hidT s₁.heap H).get? b = some o := fun e n => hidT_get e n
    have noA : ∀ {b : Addr} {o : Obj} {es : Array DictEntry} {ep : Nat}, s₁.heap.get? b = some o → o.data = .dict es ep → H b = none := fun {b o es ep} e d => by
      cases q : H b with
      | none => rfl
      | some u =>
        have e' : b = a := hA b (by rw [q]; simp)
        subst e'
        rw [ha] at e; cases e
        have d' : Data.seq vs.toArray _ = Data.dict es ep := d
        cases d'
    have nsK : ∀ {b : Addr} {m : Str → Option Value}, s₁.heap.Ns b m → (hidT s₁.heap H).Ns b m := fun {b m} ⟨o, es, ep, e, d, r⟩ => ⟨o, es, ep, base_of e (noA e d), d, r⟩
    have hKb : K.In (hidT s₁.heap H) := fun b o e => base_of (KX b o e) (by
      cases q : H b with
      | none => rfl
      | some u =>
        have e' : b = a := hA b (by rw [q]; simp)
        subst e'
        rw [hK (by rw [q]; simp)] at e; cases e)
    have hM : Mod K mg (hidT s₁.heap H) := ⟨hKb, nsK hns, ⟨mb, nsK hb, hbb⟩, let ⟨mc, h1, h2⟩ := hlim; ⟨mc, nsK h1, h2⟩⟩
    have e0 : Env0 P w K mg (hidT s₁.heap H) callerA [] s₁ H := ⟨rfl, hM, fun b o e => of_hidT e, Nat.le_of_eq (hidT_size _ _), trivial, fun b hb => absurd (show b ∈ ([] : List Addr) from hb) (by simp), hok, .of_eq hg⟩
    refine codeAny_mono ((F _ hKb (nsK hns)).run callerA [] s₁ H ⟨[.ref a], []⟩ [.ref a] [.ref a] _ _ hr e0 (hbind s₁ (.ref a)) (.cons rfl .nil) (hsp H hO hS)) fun r s' h => ?_
    cases r with
    | error e => exact (hCX H e s' h).elim
    | ok fl =>
      cases fl with
      | next => exact False.elim h
      | brk => exact False.elim h
      | cont => exact False.elim h
      | ret u =>
        obtain ⟨v, H', os, bare, un, hok', r', q⟩ := h
        have q' : v = .bl true := q
        subst q'
        obtain rfl : u = Value.bool true := r'
        refine ⟨rfl, OldK.of_keep fun b o e => ?_, os, bare⟩
        cases q : H b with
        | none => exact un.keep b o e q (by intro z; exact absurd (show b ∈ ([] : List Addr) from z) (by simp)) (by simp)
        | some u =>
          rcases hO b with z | ⟨ob, xs, z⟩
          · rw [q] at z; cases z
          · have z2 := un.frzs b ob _ z
            obtain ⟨e1, _⟩ := hok b _ z
            obtain ⟨e2, _⟩ := hok' b _ z2
            rw [e] at e1; cases e1
            exact e2
  cases hk : K.lookup a with
  | some o =>
    -- the script is one of the module's own objects
    have e := KX a o hk
    rw [ha] at e
    cases e
    refine core (fun _ => none) (fun _ => .inl rfl) (.inr ⟨_, vs.toArray, _, hk, rfl, rfl, rfl, by rw [List.size_toArray, lenV]; exact hl, by simpa using rv⟩) (fun b u z => by have z' : (none : Option HO) = some u := z; cases z') (fun b z => absurd rfl z) fun z => absurd rfl z
  | none =>
    refine core (fun b => if b = a then some (.frz { cls := .type "list", data := .seq vs.toArray } (.lst (ns.map V.int))) else none) (fun b => ?_) (.inl (.inr ⟨{ cls := .type "list", data := .seq vs.toArray }, if_pos rfl⟩)) (fun b u z => ?_) (fun b z => ?_) fun _ => hk
    · by_cases hb : b = a
      · exact .inr ⟨_, _, if_pos hb⟩
      · exact .inl (if_neg hb)
    · by_cases hb : b = a
      · have z' := (if_pos hb).symm.trans z
        cases z'
        subst hb
        exact ⟨ha, by rw [List.length_map]; exact hl, vs, _, rv, ha⟩
      · have z' := (if_neg hb).symm.trans z
        cases z'
    · by_cases hb : b = a
      · exact hb
      · exact absurd (if_neg hb) z
end L2

namespace L2
open PySem PySem.Spec PyProof.Rows

abbrev KOf {K : PySem.W.Frag} {h : Heap} (_ : K.In h) : PySem.W.Frag := K

theorem walk_of {l : PySem.W.OpenLaw} {n k : Nat} {q : Program} {loose : List Str} {XP : (Str → Option Value) → Heap → Prop} {YP : World → Heap → Prop} {d : DefRec} {K : Params → PySem.W.Frag} {CX : World → CXT} {sp : World → Sp} {x : Str}
    (hn : l.most = some n) (hn2 : n ≤ sizeLine) (hdf : d.params.defaults = []) (hr : Room k callerA)
    (hY : ∀ (w : World) (h : Heap), YP w h → (K w.params).In h)
    (F : ∀ (w : World) (mg : Str → Option Value) (fa : Addr) (h : Heap), (K w.params).In h → h.Ns mainGlobals mg → mg d.name = some (.ref fa) →
      ∃ fd : FuncData, (∀ (s : Shared) (u : Value), BindsTo s fd ⟨[u], []⟩ [(x, u)]) ∧
        ∀ base : Heap, (K w.params).In base → base.Ns mainGlobals mg → FnOk l.prog w (K w.params) mg base (CX w) k fa fd [x] (sp w))
    (hsp : ∀ (w : World) (H : Hp) (a : Addr) (ns : List Int), ns.length ≤ n → Only H → SqL (K w.params) H a (ns.map V.int) → sp w [.ref a] H (fun v _ => v = .bl true) fun _ _ _ => False)
    (hCX : ∀ (w : World) (H : Hp) (s : Shared) (e : Value) (s' : Shared), CX w [] H s (fun _ _ _ => False) e s' → False) :
    PySem.W.WalkO q loose XP YP l.row.toRowW d [] (fun f vs => PySem.call f vs) := by
  refine Att.attach_call hn hdf fun w s₀ s₁ mg mb fa o pm cd doc a vs ns G Y ho hd hcd hmg hobj hints hlen hg => ?_
  have KX := hY w _ Y
  obtain ⟨fd, hb, hF⟩ := F w mg fa _ KX G.T.g hmg
  exact law_call KX G.T.g G.T.b G.T.builtins G.T.nolimit hg hobj hints (Nat.le_trans hlen hn2) hr hF hb (fun H hO hS => hsp w H a ns hlen hO hS) fun H e s' => hCX w H s₁ e s'
end L2

/- THE LAST THEOREM (shape; LID, My.* are yours):
   My.Adr: a structure of the addresses that your layer names (classes, functions); My.Txt K t: a structure (Prop) of the equations over K;
   My.txt_mk : {K} {implicit addresses ..} (e1 : nsIn K mainGlobals "law" = some (some (.ref f))) (e2 : K.lookup f = some ⟨oc, od, .func (fnOf "law" "law" params body scope dV kV doc pm an cdv ct), sl⟩) (e3 : codeIn K cdv "law" = true) .. : ∃ t, My.Txt K t

set_option maxRecDepth 100000 in
set_option maxHeartbeats 0 in
theorem PySem.Challenge.cw_LID_holds : PySem.Challenge.rw_LID.Holds := by
  w_on; o_law; k_head; (case hw => w_witness2)
  k_fill
  refine L2.walk_of (l := PySem.Challenge.rw_LID) (n := 63) (k := 40) (x := "script") (CX := fun w => ..) (sp := fun _ => My.sp_law) rfl (by decide) rfl ⟨rfl, by decide, by decide⟩ (fun w h Y => PySem.W.kIn_of Y) ?F ?S ?C
  case F =>
    intro w mg fa h KX G hmg
    have T : ∃ t, My.Txt (L2.KOf KX) t := by
      dsimp only [L2.KOf]                          -- K must stand as «<heap const> w.params» for k_is
      refine' My.txt_mk ?e1 ?e2 ?e3 ..
      (case e1 => PySem.W.k_is)                    -- in the order: a name -> its address -> its object -> its parts
      (case e2 => PySem.W.k_is)
      ..
    obtain ⟨t, T⟩ := T
    have e0 := hmg.symm.trans (PySem.W.mg_of KX G T.law)
    cases e0                                       -- fa is the law's own address
    exact ⟨_, fun s u => .of_eq rfl, fun base kb nb => My.law_fn T kb nb⟩     -- if «.of_eq rfl» comes too early: refine' ⟨_, ?b, fun base kb nb => My.law_fn T kb nb⟩; exact fun s u => .of_eq rfl
  case S => exact fun w H a ns hl hO hS => ..
  case C => exact ..
(the tactic k_is has no namespace: write k_is) -/

namespace L2
open PySem PySem.Spec PyProof.Rows

/-- the j-th statement of a class's body -/
def inClass (s : Stmt) (j : Nat) : Stmt := match s with
  | .ClassDef _ _ _ body _ _ _ _ _ _ _ => body.getD j (.Pass ⟨0, 0, 0, 0⟩)
  | _ => .Pass ⟨0, 0, 0, 0⟩
def defArgs (s : Stmt) : Arguments := match s with
  | .FunctionDef _ a _ _ _ _ _ _ _ _ => a
  | _ => { posonlyargs := [], args := [], vararg := none, kwonlyargs := [], kw_defaults := [], kwarg := none, defaults := [] }
def defBody (s : Stmt) : List Stmt := match s with
  | .FunctionDef _ _ b _ _ _ _ _ _ _ => b
  | _ => []
def defScope (s : Stmt) : Scope := match s with
  | .FunctionDef _ _ _ _ _ _ sc _ _ _ => sc
  | _ => { kind := .function, names := [], isGenerator := false, isCoroutine := false }

structure Fun (K : PySem.W.Frag) (x qual : Str) (st : Stmt) (f : Addr) (fd : FuncData) : Prop where
  ex : ∃ (oc : Value) (od : Option Addr) (kV doc pm : Value) (an : Option Addr) (cdv ct : Value) (osl : Array (Option Value)),
    fd = PySem.W.fnOf x qual (defArgs st) (defBody st) (defScope st) .none kV doc pm an cdv ct ∧ K.lookup f = some ⟨oc, od, .func fd, osl⟩ ∧ PySem.W.codeIn K cdv qual = true
  kp : PySem.W.keepIn K (.ref f) = true
section
variable {P : Program} {w : World} {K : PySem.W.Frag} {mg : Str → Option Value} {base : Heap}
theorem Fun.binds {x qual : Str} {st : Stmt} {f : Addr} {fd : FuncData} {ps : List Str} (F : Fun K x qual st f fd)
    (h : ∀ (kV doc pm : Value) (an : Option Addr) (cdv ct : Value) (us : List Value), us.length = ps.length → bindArgs (PySem.W.fnOf x qual (defArgs st) (defBody st) (defScope st) .none kV doc pm an cdv ct) ⟨us, []⟩ = pure (ps.zip us)) : Binds K fd ps [] := by
  obtain ⟨oc, od, kV, doc, pm, an, cdv, ct, osl, rfl, lk, hcd⟩ := F.ex
  exact .all (h kV doc pm an cdv ct)
theorem fun_mk {x qual : Str} {st : Stmt} {f : Addr} {oc : Value} {od an : Option Addr} {osl : Array (Option Value)} {kV doc pm cdv ct : Value} (l : K.lookup f = some ⟨oc, od, .func (PySem.W.fnOf x qual (defArgs st) (defBody st) (defScope st) .none kV doc pm an cdv ct), osl⟩)
    (c : PySem.W.codeIn K cdv qual = true) (k : PySem.W.keepIn K (.ref f) = true) : Fun K x qual st f (PySem.W.fnOf x qual (defArgs st) (defBody st) (defScope st) .none kV doc pm an cdv ct) := ⟨⟨oc, od, kV, doc, pm, an, cdv, ct, osl, rfl, l, c⟩, k⟩
end
theorem hu_of {A : Around} {k : Nat} (hr : Room k A) : A.units + 1 < cLine := Nat.lt_of_le_of_lt (Nat.add_le_add_left (by decide : 1 ≤ 64) _) hr.units
section
variable {X : Cx}
theorem pv (i : Nat) {x : Str} {pos : Pos} (hN : X.N[i]? = some x := by rfl) (hv : Vis X.env.scope x := by first | exact Or.inl rfl | exact Or.inr (Or.inl rfl) | exact Or.inr (Or.inr rfl)) (hd : (x == ("__debug__" : Str)) = false := by decide)
    (hcd : (x == ("__classdict__" : Str)) = false := by decide) : PE X (.Name x pos) (tVar i) := pe_var hN hv hd hcd
end

/-- all that was tracked is as it was -/
def Same (H H' : Hp) : Prop := ∀ b o, H b = some o → H' b = some o
theorem Same.refl (H : Hp) : Same H H := fun _ _ h => h
theorem Same.trans {H H1 H2 : Hp} (a : Same H H1) (b : Same H1 H2) : Same H H2 := fun c o h => b c o (a c o h)
theorem Same.seq {K : PySem.W.Frag} {H H' : Hp} {a : Addr} {xs : List V} (e : Same H H') (h : SqL K H a xs) : SqL K H' a xs := by
  rcases h with (h | ⟨o, h⟩) | h
  · exact .inl (.inl (e _ _ h))
  · exact .inl (.inr ⟨o, e _ _ h⟩)
  · exact .inr h

end L2

set_option Elab.async false
set_option linter.all false
set_option maxRecDepth 100000
-- CHANGE: your row's module here, as the last of these rows
set_option Elab.async false
set_option linter.all false
set_option maxRecDepth 100000
namespace L2
open PySem PySem.Spec PyProof.Rows

end L2

namespace L2
open PySem PySem.Spec PyProof.Rows

section
variable (P : Program) (w : World)
end

section
variable {P : Program} {w : World} {H H' : Hp} {h h' : Heap} {a : Addr} {o : HO}
end

section
variable {P : Program} {w : World} {H : Hp} {h h' : Heap} {x e : Addr} {o' : HO}
end

section
variable {fs fs' ex ex' : List Addr} {H H1 H2 : Hp} {h h1 h2 h' : Heap} {a x e : Addr} {o : HO}
end

end L2

namespace L2
open PySem PySem.Spec PyProof.Rows

section
variable {X : Cx} {pins : List (Addr × Obj)} {σ : List (Option V)} {H H' : Hp} {s : Shared} {h' : Heap}

end

end L2

namespace L2
open PySem PySem.Spec PyProof.Rows
section
variable {X : Cx}

variable {a b : Expr} {ta tb : TE} {pos : Pos}
variable {tA tB' : TT} {rest : List Expr}
end
end L2

namespace L2
open PySem PySem.Spec PyProof.Rows

section
variable {X : Cx} {pins : List (Addr × Obj)} {σ : St} {H : Hp} {s : Shared} {a : Addr} {xs ys : List V}
end

section
variable {X : Cx} {pins : List (Addr × Obj)} {σ : St} {H : Hp} {s : Shared} {E : Value → Shared → Prop}
end

section
variable {X : Cx} {st : Stmt} {rest : List Stmt} {t u : TS} {e : Expr} {te : TE} {pos : Pos}
end

section
variable {X : Cx} {pos : Pos}
end

section
variable {X : Cx} {pos : Pos}
end

end L2

namespace L2
open PySem PySem.Spec PyProof.Rows
section
variable {X : Cx} {tg : Expr}
end

end L2

namespace L2
open PySem PySem.Spec PyProof.Rows

section
variable {X : Cx} {a b c : Expr} {ta tb tc : TE} {pos : Pos}

end

section
variable {X : Cx} {a b c : Expr} {ta tb tc : TE} {pos : Pos}
end
end L2

namespace L2
open PySem PySem.Spec PyProof.Rows

section
variable {prog : Program} {w : World} {A : Around} {E : Value → Shared → Prop} {s : Shared} {K : PySem.W.Frag} {x dx C f : Addr} {mA : Str → Option Value} {name : Str} {v : Value}

end

section
variable {P : Program} {w : World} {H H' : Hp} {h h' : Heap} {a C dx : Addr} {fs fs' : List (Str × V)}
end

section
variable {X : Cx} {pins : List (Addr × Obj)} {σ : St} {H : Hp} {s : Shared} {a C dx : Addr} {fs : List (Str × V)} {f : Str} {v : V} {A : Around} {E : Value → Shared → Prop}

end

section
variable {X : Cx} {o e value : Expr} {f : Str} {pos pos' tpos : Pos} {ta tv : TE}
end

section
variable {X : Cx} {pins : List (Addr × Obj)} {σ : St} {H : Hp} {s : Shared} {A : Around} {E : Value → Shared → Prop} {Q : Value → Shared → Prop} {c : Value} {b : Bool}
end
end L2

namespace L2
open PySem PySem.Spec PyProof.Rows

section
variable {X : Cx} {e : Expr} {es : List Expr} {te : TE} {t : TA} {pos : Pos}
end

section
variable {X : Cx} {pins : List (Addr × Obj)} {σ : St} {H : Hp} {s s' : Shared}
end

section
variable {X : Cx} {CX : CXT} {k : Nat} {f C : Addr} {fd : FuncData} {ps : List Str} {sp : Sp} {dvs : List V} {ds : List Value} {E : XK} {x m : Str} {p pos apos : Pos} {e o : Expr} {es : List Expr} {ta : TE} {t : TA}

end

section
variable {X : Cx} {CX : CXT} {k : Nat} {f C : Addr} {fd : FuncData} {ps ks : List Str} {sp : Sp} {E : XK} {x m : Str} {p pos apos kpos : Pos} {e o : Expr} {es : List Expr} {kws : List Keyword} {te ta : TE} {t tk : TA} {nm : Option Str}
variable {g : List Value → List Value → List Value} {gV : List V → List V → List V}
end

end L2

namespace L2
open PySem PySem.Spec PyProof.Rows
section
variable {X : Cx} {x : Str} {p pos : Pos} {e : Expr} {es : List Expr} {t : TA} {id T : String} {r : List V → Hp → VK → Prop}

end
end L2

namespace L2
open PySem PySem.Spec PyProof.Rows

section
variable {κ : Type} [DecidableEq κ]
def valV (kvs : List (κ × V)) (k : κ) : Option V := (kvs.find? fun kv => decide (kv.1 = k)).map (·.2)
def putK (kvs : List (κ × V)) (k : κ) (v : V) : List (κ × V) :=
  if (kvs.any fun kv => decide (kv.1 = k)) = true then kvs.map (fun kv => if kv.1 = k then (kv.1, v) else kv) else kvs ++ [(k, v)]
def dropK (kvs : List (κ × V)) (k : κ) : List (κ × V) := kvs.filter fun kv => decide (kv.1 ≠ k)

theorem valV_nil {k : κ} : valV ([] : List (κ × V)) k = none := rfl
theorem valV_pos {p : κ × V} {r : List (κ × V)} {k : κ} (e : p.1 = k) : valV (p :: r) k = some p.2 := by simp [valV, List.find?_cons, e]
theorem valV_neg {p : κ × V} {r : List (κ × V)} {k : κ} (e : ¬ p.1 = k) : valV (p :: r) k = valV r k := by simp [valV, List.find?_cons, e]
theorem valV_any (k : κ) : ∀ kvs : List (κ × V), (kvs.any fun kv => decide (kv.1 = k)) = (valV kvs k).isSome
  | [] => rfl
  | p :: r => by
    rw [List.any_cons]
    by_cases e : p.1 = k
    · simp only [valV_pos e, decide_eq_true e, Bool.true_or, Option.isSome_some]
    · rw [valV_neg e, decide_eq_false e, Bool.false_or]; exact valV_any k r
theorem valV_map (k j : κ) (y : V) : ∀ kvs : List (κ × V), valV (kvs.map fun kv => if kv.1 = k then (kv.1, y) else kv) j = (valV kvs j).map fun x => if j = k then y else x
  | [] => rfl
  | p :: r => by
    have ih := valV_map k j y r
    rw [List.map_cons]
    by_cases h : p.1 = k
    · rw [if_pos h]
      by_cases e : p.1 = j
      · rw [valV_pos (p := (p.1, y)) e, valV_pos e, Option.map_some, if_pos (e.symm.trans h)]
      · rw [valV_neg (p := (p.1, y)) e, valV_neg e, ih]
    · rw [if_neg h]
      by_cases e : p.1 = j
      · rw [valV_pos (p := p) e, valV_pos e, Option.map_some, if_neg (fun z => h (e.trans z))]
      · rw [valV_neg (p := p) e, valV_neg e, ih]
theorem valV_snoc (k j : κ) (y : V) : ∀ kvs : List (κ × V), valV kvs k = none → valV (kvs ++ [(k, y)]) j = if j = k then some y else valV kvs j
  | [], _ => by
    by_cases e : k = j
    · rw [if_pos e.symm]; exact valV_pos (p := (k, y)) e
    · rw [if_neg (fun z => e z.symm)]; exact valV_neg (p := (k, y)) e
  | p :: r, hn => by
    rw [List.cons_append]
    have hk : ¬ p.1 = k := fun z => by rw [valV_pos z] at hn; cases hn
    rw [valV_neg hk] at hn
    have ih := valV_snoc k j y r hn
    by_cases e : p.1 = j
    · rw [valV_pos e, valV_pos e, if_neg (fun z => hk (e.trans z))]
    · rw [valV_neg e, valV_neg e, ih]
theorem valV_put (kvs : List (κ × V)) (k j : κ) (y : V) : valV (putK kvs k y) j = if j = k then some y else valV kvs j := by
  unfold putK
  by_cases a : (kvs.any fun kv => decide (kv.1 = k)) = true
  · rw [if_pos a, valV_map]
    rw [valV_any] at a
    by_cases e : j = k
    · obtain ⟨x, hx⟩ := Option.isSome_iff_exists.mp a
      rw [if_pos e, e, hx, Option.map_some, if_pos rfl]
    · rw [if_neg e]
      cases valV kvs j with
      | none => rfl
      | some x => rw [Option.map_some, if_neg e]
  · rw [if_neg a]
    refine valV_snoc k j y kvs ?_
    rw [valV_any] at a
    cases q : valV kvs k with
    | none => rfl
    | some x => rw [q] at a; exact (a rfl).elim
theorem length_putK (kvs : List (κ × V)) (k : κ) (v : V) : (putK kvs k v).length ≤ kvs.length + 1 := by
  unfold putK
  split
  · rw [List.length_map]; omega
  · rw [List.length_append, List.length_cons, List.length_nil]; omega
theorem RelO.isSome_eq {o : Option V} {u : Option Value} (r : RelO o u) : o.isSome = u.isSome := by
  cases o with
  | none => cases u with
    | none => rfl
    | some _ => exact (show False from r).elim
  | some _ => cases u with
    | none => exact (show False from r).elim
    | some _ => rfl
theorem KV.val {kvs : List (κ × V)} {vs : List (κ × Value)} (r : KV kvs vs) (k : κ) : RelO (valV kvs k) (valueAt vs k) := by
  unfold KV at r
  induction r with
  | nil => exact True.intro
  | @cons p q ps qs h t ih =>
    obtain ⟨h1, h2⟩ := h
    by_cases e : p.1 = k
    · have e' : q.1 = k := h1.symm.trans e
      have b : valueAt (q :: qs) k = some q.2 := by simp [valueAt, List.find?_cons, e']
      rw [valV_pos e, b]; exact h2
    · have e' : ¬ q.1 = k := fun z => e (h1.trans z)
      have b : valueAt (q :: qs) k = valueAt qs k := by simp [valueAt, List.find?_cons, e']
      rw [valV_neg e, b]; exact ih
theorem KV.any {kvs : List (κ × V)} {vs : List (κ × Value)} (r : KV kvs vs) (k : κ) : (kvs.any fun kv => decide (kv.1 = k)) = vs.any fun kv => decide (kv.1 = k) := by
  unfold KV at r
  induction r with
  | nil => rfl
  | cons h t ih => rw [List.any_cons, List.any_cons, ih, h.1]
theorem KV.repl {kvs : List (κ × V)} {vs : List (κ × Value)} (r : KV kvs vs) (k : κ) {y : V} {u : Value} (ry : RelV y u) :
    KV (kvs.map fun kv => if kv.1 = k then (kv.1, y) else kv) (vs.map fun kv => if kv.1 = k then (kv.1, u) else kv) := by
  unfold KV at r ⊢
  induction r with
  | nil => exact .nil
  | @cons p q ps qs h t ih =>
    rw [List.map_cons, List.map_cons]
    refine .cons ?_ ih
    obtain ⟨h1, h2⟩ := h
    by_cases e : p.1 = k
    · rw [if_pos e, if_pos (h1.symm.trans e)]; exact ⟨h1, ry⟩
    · rw [if_neg e, if_neg (fun z => e (h1.trans z))]; exact ⟨h1, h2⟩
theorem KV.put {kvs : List (κ × V)} {vs : List (κ × Value)} (r : KV kvs vs) (k : κ) {y : V} {u : Value} (ry : RelV y u) : KV (putK kvs k y) (stored vs k u) := by
  unfold putK stored
  rw [r.any k]
  by_cases e : (vs.any fun kv => decide (kv.1 = k)) = true
  · rw [if_pos e, if_pos e]; exact r.repl k ry
  · rw [if_neg e, if_neg e]; exact Paired.snoc r ⟨rfl, ry⟩
theorem KV.length {kvs : List (κ × V)} {vs : List (κ × Value)} (r : KV kvs vs) : kvs.length = vs.length := Paired.length r
end


theorem kV_is {P : Program} {w : World} {k : Key} {u : Value} (r : RelV (kV k) u) : (mixKind P w).is k u = true := by
  cases k with
  | inl i => obtain ⟨t, e⟩ := (show ∃ t, u = Value.int i t from r); subst e; exact mixKind_int P w i t
  | inr x => obtain ⟨t, e⟩ := (show ∃ t, u = Value.str x t from r); subst e; exact mixKind_str P w x t
theorem items_are {P : Program} {w : World} : ∀ {ks : List Key} {us : List Value}, Vals (ks.map kV) us → ItemsAre (mixKind P w) ks us
  | [], _, r => by rw [List.map_nil] at r; cases r; exact .nil
  | k :: ks, _, r => by
    rw [List.map_cons] at r
    cases r with
    | cons h t => exact .cons (kV_is h) (items_are t)

abbrev KT (H : Hp) : List (List Key × V) → List (List Key × Addr × Value) → Prop := Paired fun p q => p.1 = q.1 ∧ H q.2.1 = some (.tup (p.1.map kV)) ∧ RelV p.2 q.2.2
theorem KT.val {H : Hp} {kvs : List (List Key × V)} {xs : List (List Key × Addr × Value)} (r : KT H kvs xs) (k : List Key) : RelO (valV kvs k) ((atKey xs k).map (·.2)) := by
  induction r with
  | nil => exact True.intro
  | @cons p q ps qs h t ih =>
    obtain ⟨h1, _, h2⟩ := h
    by_cases e : p.1 = k
    · have e' : q.1 = k := h1.symm.trans e
      have b : atKey (q :: qs) k = some q.2 := by simp [atKey, List.find?_cons, e']
      rw [valV_pos e, b]; exact h2
    · have e' : ¬ q.1 = k := fun z => e (h1.trans z)
      have b : atKey (q :: qs) k = atKey qs k := by simp [atKey, List.find?_cons, e']
      rw [valV_neg e, b]; exact ih
theorem KT.repl {H : Hp} {kvs : List (List Key × V)} {xs : List (List Key × Addr × Value)} (r : KT H kvs xs) (k : List Key) {y : V} {u : Value} (ry : RelV y u) :
    KT H (kvs.map fun kv => if kv.1 = k then (kv.1, y) else kv) (xs.map (putAt k u)) := by
  induction r with
  | nil => exact .nil
  | @cons p q ps qs h t ih =>
    rw [List.map_cons, List.map_cons]
    refine .cons ?_ ih
    obtain ⟨h1, h2, h3⟩ := h
    unfold putAt
    by_cases e : p.1 = k
    · rw [if_pos e, if_pos (h1.symm.trans e)]; exact ⟨h1, h2, ry⟩
    · rw [if_neg e, if_neg (fun z => e (h1.trans z))]; exact ⟨h1, h2, h3⟩
theorem KT.put {H : Hp} {kvs : List (List Key × V)} {xs : List (List Key × Addr × Value)} (r : KT H kvs xs) (k : List Key) {b : Addr} {y : V} {u : Value} (hb : H b = some (.tup (k.map kV))) (ry : RelV y u) :
    KT H (putK kvs k y) (storedH xs k b u) := by
  have e : (kvs.any fun kv => decide (kv.1 = k)) = (atKey xs k).isSome := by
    rw [valV_any, (r.val k).isSome_eq, Option.isSome_map]
  unfold putK storedH
  rw [e]
  by_cases q : (atKey xs k).isSome = true
  · rw [if_pos q, if_pos q]; exact r.repl k ry
  · rw [if_neg q, if_neg q]; exact Paired.snoc r ⟨rfl, hb, ry⟩
theorem KT.keeps {H H' : Hp} {kvs : List (List Key × V)} {xs : List (List Key × Addr × Value)} (r : KT H kvs xs) (ht : ∀ b ys, H b = some (.tup ys) → H' b = some (.tup ys)) : KT H' kvs xs :=
  Paired.mapP r fun _ _ z => ⟨z.1, ht _ _ z.2.1, z.2.2⟩

section
variable {P : Program} {w : World} {H : Hp} {h : Heap} {a : Addr}
theorem rd_of {u : HO} (ok : HOk P w H h) (e : Rd H a u) : ObjOk P w H h a u := e.ok ok
theorem dk_rd {kvs : List (Key × V)} (ok : HOk P w H h) (e : Rd H a (.dK kvs)) : kvs.length ≤ sizeLine ∧ (a == sysModules) = false ∧ ∃ vs, KV kvs vs ∧ h.DictOf (mixKind P w) a vs :=
  show ObjOk P w H h a (.dK kvs) from rd_of ok e
theorem dk_of {kvs : List (Key × V)} (ok : HOk P w H h) (e : H a = some (.dK kvs)) : kvs.length ≤ sizeLine ∧ (a == sysModules) = false ∧ ∃ vs, KV kvs vs ∧ h.DictOf (mixKind P w) a vs := dk_rd ok (.inl e)
theorem key_of {ks : List Key} (ok : HOk P w H h) (e : H a = some (.tup (ks.map kV))) : (tupleKind (mixKind P w)).is h ks a := by
  obtain ⟨_, its, r, o, h1, h2, n, h3⟩ := (show ObjOk P w H h a (.tup (ks.map kV)) from ok a _ e)
  exact ⟨o, its.toArray, n, h1, h2, h3, by simpa using items_are r⟩
theorem dt_rd {kvs : List (List Key × V)} (ok : HOk P w H h) (e : Rd H a (.dT kvs)) : kvs.length ≤ sizeLine ∧ (a == sysModules) = false ∧
    ∃ xs, KT H kvs xs ∧ h.DictOfH (tupleKind (mixKind P w)) a xs := by
  obtain ⟨z, y, xs, r, o, es, ep, h1, h2, h3, h4, h5⟩ := (show ObjOk P w H h a (.dT kvs) from rd_of ok e)
  refine ⟨z, y, xs, r, o, es, ep, h1, h2, h3, h4, fun x hx => ?_, h5⟩
  have all : ∀ {l : List (List Key × V)} {m : List (List Key × Addr × Value)}, KT H l m → ∀ x ∈ m, (tupleKind (mixKind P w)).is h x.1 x.2.1 := by
    intro l m q
    induction q with
    | nil => intro x hx; exact nomatch hx
    | @cons p q ps qs hq t ih =>
      intro x hx
      rcases List.mem_cons.mp hx with e | hx
      · subst e
        exact key_of ok (by rw [← hq.1]; exact hq.2.1)
      · exact ih x hx
  exact all r x hx
theorem dt_of {kvs : List (List Key × V)} (ok : HOk P w H h) (e : H a = some (.dT kvs)) : kvs.length ≤ sizeLine ∧ (a == sysModules) = false ∧
    ∃ xs, KT H kvs xs ∧ h.DictOfH (tupleKind (mixKind P w)) a xs := dt_rd ok (.inl e)
end

def DGet (H : Hp) (a : Addr) (y : V) (r : Option V) : Prop :=
  (∃ kvs k, Rd H a (.dK kvs) ∧ y = kV k ∧ r = valV kvs k) ∨ ∃ kvs k b, Rd H a (.dT kvs) ∧ y = .ref b ∧ H b = some (.tup (k.map kV)) ∧ r = valV kvs k
def DPut (H : Hp) (a : Addr) (y v : V) (H' : Hp) : Prop :=
  (∃ kvs k, H a = some (.dK kvs) ∧ y = kV k ∧ kvs.length < sizeLine ∧ H' = upd H a (.dK (putK kvs k v))) ∨
  ∃ kvs k b, H a = some (.dT kvs) ∧ y = .ref b ∧ H b = some (.tup (k.map kV)) ∧ kvs.length < sizeLine ∧ H' = upd H a (.dT (putK kvs k v))
theorem DGet.k {H : Hp} {a : Addr} {kvs : List (Key × V)} {k : Key} (e : H a = some (.dK kvs)) : DGet H a (kV k) (valV kvs k) := .inl ⟨kvs, k, .inl e, rfl, rfl⟩
theorem DGet.t {H : Hp} {a b : Addr} {kvs : List (List Key × V)} {k : List Key} (e : H a = some (.dT kvs)) (eb : H b = some (.tup (k.map kV))) : DGet H a (.ref b) (valV kvs k) := .inr ⟨kvs, k, b, .inl e, rfl, eb, rfl⟩
theorem DPut.k {H : Hp} {a : Addr} {kvs : List (Key × V)} {k : Key} {v : V} (e : H a = some (.dK kvs)) (hl : kvs.length < sizeLine) : DPut H a (kV k) v (upd H a (.dK (putK kvs k v))) := .inl ⟨kvs, k, e, rfl, hl, rfl⟩
theorem DPut.t {H : Hp} {a b : Addr} {kvs : List (List Key × V)} {k : List Key} {v : V} (e : H a = some (.dT kvs)) (eb : H b = some (.tup (k.map kV))) (hl : kvs.length < sizeLine) :
    DPut H a (.ref b) v (upd H a (.dT (putK kvs k v))) := .inr ⟨kvs, k, b, e, rfl, eb, hl, rfl⟩


section
variable {X : Cx} {pins : List (Addr × Obj)} {σ : St} {H : Hp} {s : Shared} {a : Addr} {y v : V} {u r : Value} {o : Option V} {A : Around} {E : Value → Shared → Prop}

theorem Inv.big (I : Inv X pins σ H s) : sysModules < s.heap.objs.size := by
  have h : mainGlobals < s.heap.objs.size := (I.mod.glob.keeps I.bk).lt
  exact Nat.lt_trans (by decide) h

theorem d_getItem {Q : Value → Shared → Prop} (hu : A.units + 1 < cLine) (I : Inv X pins σ H s) (g : DGet H a y (some v)) (ry : RelV y u) (h : ∀ w' s', Inv X pins σ H s' → RelV v w' → Q w' s') :
    wpAny (model X.prog X.w) A (getItem (.ref a) u) Q E s := by
  rcases g with ⟨kvs, k, e, ey, l⟩ | ⟨kvs, k, b, e, ey, eb, l⟩
  · subst ey
    obtain ⟨z, hd, vs, rel, dd⟩ := dk_rd I.hok e
    obtain ⟨w', hw, rw'⟩ := RelO.some_of (v := v) (o := valueAt vs k) (by rw [l]; exact rel.val k)
    exact wpAny_getItem_of (kV_is ry) dd.mapOf hw (h w' _ (I.tok _) rw')
  · subst ey
    cases (show u = Value.ref b from ry)
    obtain ⟨z, hd, xs, rel, dd⟩ := dt_rd I.hok e
    obtain ⟨w', hw, rw'⟩ := RelO.some_of (v := v) (o := (atKey xs k).map (·.2)) (by rw [l]; exact rel.val k)
    obtain ⟨p, hp, hp2⟩ := Option.map_eq_some_iff.mp hw
    refine wpAny_getItem_heap (tupleKind_room_in1 hu) (key_of I.hok eb) dd hp ?_
    rw [hp2]
    exact h w' _ (I.tok _) rw'
theorem d_notIn {Q : Value → Shared → Prop} (hu : A.units + 1 < cLine) (I : Inv X pins σ H s) (g : DGet H a y o) (ry : RelV y u) (h : ∀ s', Inv X pins σ H s' → Q (.bool (!o.isSome)) s') :
    wpAny (model X.prog X.w) A (compareOp .NotIn u (.ref a)) Q E s := by
  rcases g with ⟨kvs, k, e, ey, l⟩ | ⟨kvs, k, b, e, ey, eb, l⟩
  · subst ey
    obtain ⟨z, hd, vs, rel, dd⟩ := dk_rd I.hok e
    refine wpAny_notIn_of (kV_is ry) hd dd.mapOf ?_
    rw [← (rel.val k).isSome_eq, ← l]
    exact h _ (I.tok _)
  · subst ey
    cases (show u = Value.ref b from ry)
    obtain ⟨z, hd, xs, rel, dd⟩ := dt_rd I.hok e
    refine wpAny_notIn_heap (tupleKind_room_in1 hu) (key_of I.hok eb) hd dd ?_
    have q := (rel.val k).isSome_eq
    rw [Option.isSome_map] at q
    rw [← q, ← l]
    exact h _ (I.tok _)
theorem d_write {h' : Heap} {t' : Nat} {ob : HO} (I : Inv X pins σ H s) (mu : Mut (H a)) (hs : Heap.SameBut a s.heap h') (he : ∃ q, h'.get? a = some q) (new : ObjOk X.prog X.w (upd H a ob) h' a ob) :
    Inv X pins σ (upd H a ob) { s with heap := h', toks := t' } :=
  I.write (x := a) (e := a) mu (.inl rfl) (fun b q hb z => (hs.2 b hb).trans z) he new
theorem dk_new {P : Program} {w : World} {H' : Hp} {h' : Heap} {kvs : List (Key × V)} {vs : List (Key × Value)} (z : kvs.length ≤ sizeLine) (hd : (a == sysModules) = false) (rel : KV kvs vs) (dd : h'.DictOf (mixKind P w) a vs) :
    ObjOk P w H' h' a (.dK kvs) := ⟨z, hd, vs, rel, dd⟩
theorem d_setItem {H' : Hp} {Q : Unit → Shared → Prop} (hu : A.units + 1 < cLine) (I : Inv X pins σ H s) (g : DPut H a y v H') (ry : RelV y u) (rv : RelV v r) (h : ∀ s', Inv X pins σ H' s' → Q () s') :
    wpAny (model X.prog X.w) A (setItem (.ref a) u r) Q E s := by
  rcases g with ⟨kvs, k, e, ey, l, eH⟩ | ⟨kvs, k, b, e, ey, eb, l, eH⟩
  · subst ey eH
    obtain ⟨z, hd, vs, rel, dd⟩ := dk_of I.hok e
    have hz : vs.length ≤ sizeLine := by rw [← rel.length]; exact z
    have hl : (putK kvs k v).length ≤ sizeLine := by have := length_putK kvs k v; omega
    refine wpAny_setItem_pairs (hsz := hz) (kV_is ry) dd fun h' dd' hs => h _ ?_
    have he : ∃ q, h'.get? a = some q := let ⟨q, _, _, hq, _⟩ := dd'; ⟨q, hq⟩
    exact d_write I (by rw [e]; exact True.intro) hs he (dk_new hl hd (rel.put k rv) dd')
  · subst ey eH
    cases (show u = Value.ref b from ry)
    obtain ⟨z, hd, xs, rel, dd⟩ := dt_of I.hok e
    have hz : xs.length ≤ sizeLine := by rw [← Paired.length rel]; exact z
    have hl : (putK kvs k v).length ≤ sizeLine := by have := length_putK kvs k v; omega
    refine wpAny_setItem_heap (hsz := hz) (tupleKind_room_in1 hu) (key_of I.hok eb) dd fun h' dd' hs => h _ ?_
    obtain ⟨q, es, ep, hq, h2, h3, h4, _, h5⟩ := dd'
    refine d_write I (by rw [e]; exact True.intro) hs ⟨q, hq⟩ ⟨hl, hd, _, (rel.put k eb rv).keeps fun c ys ec => ?_, q, es, ep, hq, h2, h3, h4, h5⟩
    rw [upd_ne (ne_of ec e (fun z => nomatch z))]
    exact ec
end

section
variable {X : Cx} {pins : List (Addr × Obj)} {σ : St} {H : Hp} {s : Shared} {a : Addr} {kvs : List (Key × V)} {k : Key} {u : Value} {A : Around} {E : Value → Shared → Prop}
theorem d_len {Q : Value → Shared → Prop} (I : Inv X pins σ H s) (e : Rd H a (.dK kvs)) (h : ∀ t s', Inv X pins σ H s' → Q (.int kvs.length t) s') : wpAny (model X.prog X.w) A (call (.builtin "len") [.ref a]) Q E s := by
  obtain ⟨z, hd, vs, rel, dd⟩ := dk_rd I.hok e
  refine call_len_dict hd dd (by rw [← rel.length]; rw [sizeLine_eq] at z; omega) ?_
  rw [← rel.length]
  exact h _ _ (I.tok _)
end


/-- the element of a subscription, not a slice -/
def NoSl (i : Expr) : Prop := ∀ ov iv, subscripted i false ov iv = operate [ov, iv] (getItem ov iv)
theorem subD_of {prog : Program} {w : World} {A : Around} {E : Value → Shared → Prop} {s : Shared} {env : Env} {value slice : Expr} {pos : Pos} {T id : String} {Q : Value → Shared → Prop}
    (hl : typeLookup (.type T) "__getitem__" = pure (some (.builtin id))) (hs : NoSl slice)
    (h : wpAny (model prog w) A (eval value env) (fun o s₁ => wpAny (model prog w) A (eval slice env) (fun i s₂ => s₂.TypeIs o T ∧ wpAny (model prog w) A (getItem o i) Q E s₂) E s₁) E s) :
    wpAny (model prog w) A (eval (.Subscript value slice pos) env) Q E s := by
  refine Subscript_ (wpAny_mono h (fun o s₁ h₁ => wpAny_mono h₁ (fun i s₂ h₂ => ?_) fun _ _ x => x) fun _ _ x => x)
  obtain ⟨hT, h₂⟩ := h₂
  unfold subscriptTail
  refine wpAny_bind ?_
  rw [getitemInPython_of_ne hT.not_modules]
  refine wpAny_bind (wpAny_specialOf hT hl ?_)
  have fin : wpAny (model prog w) A (subscripted slice false o i) (fun r s₃ => wpAny (model prog w) A (letTemporaryGo value o r >>= fun _ => pure r) Q E s₃) E s₂ := by
    rw [hs o i]
    exact wpAny_operating (wpAny_mono h₂ (fun r s₃ h₃ => wpAny_bind (wpAny_letTemporaryGo (wpAny_pure h₃))) fun _ _ x => x)
  first
    | exact wpAny_pure (wpAny_bind fin)
    | exact wpAny_bind (wpAny_pure (wpAny_bind fin))
    | exact wpAny_bind fin

theorem dict_typeIs {X : Cx} {pins : List (Addr × Obj)} {σ : St} {H : Hp} {s : Shared} {a : Addr} {y : V} {o : Option V} (I : Inv X pins σ H s) (g : DGet H a y o) : s.TypeIs (.ref a) "dict" := by
  rcases g with ⟨kvs, k, e, _, _⟩ | ⟨kvs, k, b, e, _, _, _⟩
  · obtain ⟨_, _, vs, _, dd⟩ := dk_rd I.hok e
    exact dd.typeIs
  · obtain ⟨_, _, xs, _, dd⟩ := dt_rd I.hok e
    exact dd.typeIs
def tDGet (td ty : TE) : TE := fun σ H Q => td σ H fun x H1 => ty σ H1 fun y H2 => ∃ a v, x = .ref a ∧ DGet H2 a y (some v) ∧ Q v H2
def tDNotIn (ty td : TE) : TE := fun σ H Q => ty σ H fun y H1 => td σ H1 fun x H2 => ∃ a o, x = .ref a ∧ DGet H2 a y o ∧ Q (.bl (!o.isSome)) H2
def sDPut (td ty tv : TE) : TS := fun D σ H => tv σ H fun v H1 => td σ H1 fun x H2 => ty σ H2 fun y H3 => ∃ a H4, x = .ref a ∧ DPut H3 a y v H4 ∧ D.nx σ H4
def sDAug (td ty tv : TE) (rd : V → V → Hp → VK → Prop) : TS := fun D σ H => td σ H fun x H1 => ty σ H1 fun y H2 => ∃ a v, x = .ref a ∧ DGet H2 a y (some v) ∧
  tv σ H2 fun y2 H3 => rd v y2 H3 fun z H4 => ∃ H5, DPut H4 a y z H5 ∧ D.nx σ H5
section
variable {X : Cx} {o i e value : Expr} {pos pos' tpos : Pos} {td ty tv : TE}
theorem pe_dget (hu : X.A.units + 1 < cLine) (ho : PE X o td) (hi : PE X i ty) (hs : NoSl i) : PE X (.Subscript o i pos) (tDGet td ty) := by
  intro pins s σ H Q I h
  refine subD_of PySem.F.slot_dict_getitem.lookup hs (thn (ho pins s σ H _ I h) fun u s1 ⟨x, H1, I1, rx, q1⟩ => thn (hi pins s1 σ H1 _ I1 q1) fun iv s2 ⟨y, H2, I2, ry, a, v, ex, g, q2⟩ => ?_)
  subst ex
  obtain rfl : u = Value.ref a := rx
  exact ⟨dict_typeIs I2 g, d_getItem hu I2 g ry fun w' s3 I3 rw' => ⟨v, H2, I3, rw', q2⟩⟩
theorem pc_dnotin (hu : X.A.units + 1 < cLine) (hi : PE X i ty) (ho : PE X o td) : PC X .NotIn i o (tDNotIn ty td) := by
  intro pins s σ H Q I h
  refine thn (hi pins s σ H _ I h) fun iv s1 ⟨y, H1, I1, ry, q1⟩ => thn (ho pins s1 σ H1 _ I1 q1) fun u s2 ⟨x, H2, I2, rx, a, ov, ex, g, q2⟩ => ?_
  subst ex
  obtain rfl : u = Value.ref a := rx
  exact d_notIn hu I2 g ry fun s3 I3 => ⟨.bl (!ov.isSome), H2, I3, rfl, q2⟩
theorem ps_dput (hu : X.A.units + 1 < cLine) (ho : PE X o td) (hi : PE X i ty) (hv : PE X value tv) (hs : swapsWith value (some (.Subscript o i pos')) pos.line X.env = pure false) :
    PS X (.Assign [.Subscript o i pos'] value pos) (sDPut td ty tv) := by
  intro pins s σ H D I h
  refine wpAny_Assign_Subscript (thn (hv pins s σ H _ I h) fun r s1 ⟨v, H1, I1, rv, q1⟩ => thn (ho pins s1 σ H1 _ I1 q1) fun u s2 ⟨x, H2, I2, rx, q2⟩ => thn (hi pins s2 σ H2 _ I2 q2) fun iv s3 ⟨y, H3, I3, ry, a, H4, ex, g, q3⟩ => ?_) hs
  subst ex
  obtain rfl : u = Value.ref a := rx
  exact d_setItem hu I3 g ry rv fun s4 I4 => ⟨σ, H4, I4, q3⟩
theorem ps_daug {op : Operator} {rd : V → V → Hp → VK → Prop} (hu : X.A.units + 1 < cLine) (ho : PE X o td) (hi : PE X i ty) (hv : PE X value tv) (hop : InOp X op rd)
    (ha : ∀ ov iv new, augStore i ov iv new = (do holding [new, ov, iv] (setItem ov iv new); release [new, ov, iv] []; pure .next)) : PS X (.AugAssign (.Subscript o i tpos) op value pos) (sDAug td ty tv rd) := by
  intro pins s σ H D I h
  refine wpAny_AugAssign_SubscriptAny (thn (ho pins s σ H _ I h) fun u s1 ⟨x, H1, I1, rx, q1⟩ => thn (hi pins s1 σ H1 _ I1 q1) fun iv s2 ⟨y, H2, I2, ry, a, v, ex, g, q2⟩ => ?_) ha
  subst ex
  obtain rfl : u = Value.ref a := rx
  refine d_getItem hu I2 g ry fun w' s3 I3 rw' => thn (hv pins s3 σ H2 _ I3 q2) fun w2 s4 ⟨y2, H3, I4, ry2, q3⟩ => thn (hop pins s4 σ H3 v y2 w' w2 _ I4 rw' ry2 q3) fun w3 s5 ⟨z, H4, I5, rz, H5, g5, q4⟩ => ?_
  exact d_setItem hu I5 g5 ry rz fun s6 I6 => ⟨σ, H5, I6, q4⟩
end


theorem dk_empty {P : Program} {w : World} {H : Hp} (h : Heap) (hb : sysModules < h.objs.size) : ObjOk P w H (h.push { cls := .type "dict", data := .dict #[] }) h.objs.size (.dK []) :=
  ⟨Nat.zero_le _, beq_eq_false_iff_ne.mpr (Ne.symm (Nat.ne_of_lt hb)), [], .nil, Heap.DictOf.new h⟩
theorem dt_empty {P : Program} {w : World} {H : Hp} (h : Heap) (hb : sysModules < h.objs.size) : ObjOk P w H (h.push { cls := .type "dict", data := .dict #[] }) h.objs.size (.dT []) :=
  ⟨Nat.zero_le _, beq_eq_false_iff_ne.mpr (Ne.symm (Nat.ne_of_lt hb)), [], .nil, _, #[], 0, Heap.get?_push_size _ rfl, ⟨rfl, rfl, rfl⟩, rfl, rfl, List.nodup_nil⟩
def tDNewK : TE := fun _ H Q => ∀ p, H p = none → Q (.ref p) (upd H p (.dK []))
def tDNewT : TE := fun _ H Q => ∀ p, H p = none → Q (.ref p) (upd H p (.dT []))
section
variable {X : Cx} {pos : Pos}
theorem pe_dnewT : PE X (.Dict [] [] pos) tDNewT := fun pins s σ H Q I h =>
  wpAny_Dict_empty ⟨.ref s.heap.objs.size, _, I.laid (a := s.heap.objs.size) (o := .dT []) (t' := s.toks) (fun _ _ q => Heap.get?_push_of_some _ q) (Nat.le_refl _) (dt_empty s.heap I.big), rfl, h _ (I.hok.fresh (Nat.le_refl _))⟩
end

def tPairs : List (TE × TE) → St → Hp → (List (V × V) → Hp → Prop) → Prop
  | [], _, H, Q => Q [] H
  | (tk, tv) :: r, σ, H, Q => tk σ H fun x H1 => tv σ H1 fun y H2 => tPairs r σ H2 fun ps H3 => Q ((x, y) :: ps) H3
abbrev VV : List (V × V) → List (Value × Value) → Prop := Paired fun p q => RelV p.1 q.1 ∧ RelV p.2 q.2
def PPs (X : Cx) (pos : Pos) (keys : List (Option Expr)) (values : List Expr) (trs : List (TE × TE)) : Prop :=
  ∀ (pins : List (Addr × Obj)) (s : Shared) (σ : St) (H : Hp) (Q : List (V × V) → Hp → Prop), Inv X pins σ H s → tPairs trs σ H Q →
    wpAny (model X.prog X.w) X.A (evalPairs (pairTrees keys values X.env pos)) (fun vs s' => ∃ ps H', Inv X pins σ H' s' ∧ VV ps vs ∧ Q ps H') X.xe s
theorem pps_nil {X : Cx} {pos : Pos} : PPs X pos [] [] [] := fun pins s σ H Q I h => pairTrees_nil_walk ⟨[], H, I, .nil, h⟩
theorem pps_cons {X : Cx} {pos : Pos} {k v : Expr} {ks : List (Option Expr)} {vs : List Expr} {tk tv : TE} {trs : List (TE × TE)} (hk : PE X k tk) (hv : PE X v tv) (hr : PPs X pos ks vs trs) :
    PPs X pos (some k :: ks) (v :: vs) ((tk, tv) :: trs) := fun pins s σ H Q I h =>
  pairTrees_cons_walk (thn (hk pins s σ H _ I h) fun u s1 ⟨x, H1, I1, rx, q1⟩ => thn (hv pins s1 σ H1 _ I1 q1) fun w2 s2 ⟨y, H2, I2, ry, q2⟩ =>
    thn (hr pins s2 σ H2 _ I2 q2) fun ws s3 ⟨ps, H3, I3, rel, q3⟩ => ⟨(x, y) :: ps, H3, I3, .cons ⟨rx, ry⟩ rel, q3⟩)

def mergeK (kvs more : List (Key × V)) : List (Key × V) := more.foldl (fun acc kv => putK acc kv.1 kv.2) kvs
theorem KV.merge : ∀ {more : List (Key × V)} {rs : List (Key × Value)} {kvs : List (Key × V)} {vs : List (Key × Value)}, KV more rs → KV kvs vs → KV (mergeK kvs more) (merged vs rs) := by
  intro more rs kvs vs r
  unfold KV at r
  induction r generalizing kvs vs with
  | nil => intro q; exact q
  | @cons p q ps qs h t ih =>
    intro r0
    have e : KV (putK kvs p.1 p.2) (stored vs q.1 q.2) := by
      have := r0.put p.1 h.2
      rw [← h.1]; exact this
    exact ih e
theorem length_mergeK : ∀ (more kvs : List (Key × V)), (mergeK kvs more).length ≤ kvs.length + more.length
  | [], kvs => by show kvs.length ≤ kvs.length + 0; omega
  | p :: r, kvs => by
    have h1 := length_mergeK r (putK kvs p.1 p.2)
    have h2 := length_putK kvs p.1 p.2
    show (mergeK (putK kvs p.1 p.2) r).length ≤ _
    rw [List.length_cons]; omega
theorem carries_of {P : Program} {w : World} : ∀ {kvs : List (Key × V)} {ws : List (Value × Value)}, VV (kvs.map fun kv => (kV kv.1, kv.2)) ws → ∃ rs, Carries (mixKind P w) ws rs ∧ KV kvs rs
  | [], _, r => by rw [List.map_nil] at r; cases r; exact ⟨[], True.intro, .nil⟩
  | p :: kvs, _, r => by
    rw [List.map_cons] at r
    cases r with
    | @cons a b as bs h t =>
      obtain ⟨rs, c, q⟩ := carries_of (P := P) (w := w) t
      obtain ⟨b1, b2⟩ := b
      exact ⟨(p.1, b2) :: rs, ⟨kV_is h.1, rfl, c⟩, .cons ⟨rfl, h.2⟩ q⟩
def tDisp (trs : List (TE × TE)) : TE := fun σ H Q => ∀ p, H p = none → tPairs trs σ (upd H p (.dK [])) fun ps H2 => H2 p = some (.dK []) ∧ ∃ kvs : List (Key × V), ps = kvs.map (fun kv => (kV kv.1, kv.2)) ∧ kvs.length ≤ 15 ∧ Q (.ref p) (upd H2 p (.dK (mergeK [] kvs)))
theorem pe_disp {X : Cx} {pos : Pos} {keys : List (Option Expr)} {values : List Expr} {trs : List (TE × TE)} (h : PPs X pos keys values trs) (hall : keys.all (·.isSome) = true) (hl : keys.length = values.length) (h0 : keys ≠ [])
    (h15 : keys.length ≤ 15) : PE X (.Dict keys values pos) (tDisp trs) := by
  intro pins s σ H Q I q
  have hn := I.hok.fresh (Nat.le_refl s.heap.objs.size)
  have I1 := I.laid (a := s.heap.objs.size) (o := .dK []) (h' := s.heap.push { cls := .type "dict", data := .dict #[] }) (t' := s.toks) (fun _ _ q => Heap.get?_push_of_some _ q) (Nat.le_refl _) (dk_empty s.heap I.big)
  refine wpAny_Dict_walk (knd := mixKind X.prog X.w) hall hl h0 h15 (thn (h pins _ σ _ _ I1 (q _ hn)) fun ws s2 ⟨ps, H2, I2, rel, e, kvs, ep, lk, q2⟩ => ?_)
  subst ep
  obtain ⟨rs, c, rk⟩ := carries_of (P := X.prog) (w := X.w) rel
  obtain ⟨z, hd, vs0, r0, dd⟩ := dk_of I2.hok e
  cases r0
  refine ⟨rs, c, dd, fun h' dd' hs => ⟨.ref s.heap.objs.size, _, ?_, rfl, q2⟩⟩
  have hz : (mergeK [] kvs).length ≤ sizeLine := by
    have h1 := length_mergeK kvs []
    rw [List.length_nil] at h1
    rw [sizeLine_eq]; omega
  have he : ∃ q, h'.get? s.heap.objs.size = some q := let ⟨q, _, _, hq, _⟩ := dd'; ⟨q, hq⟩
  exact d_write I2 (by rw [e]; exact True.intro) hs he (dk_new hz hd (rk.merge .nil) dd')


section
variable {X : Cx} {pins : List (Addr × Obj)} {σ : St} {H : Hp} {s : Shared} {a : Addr} {y d : V} {u r : Value} {o : Option V} {A : Around} {E : Value → Shared → Prop}
end

section
variable {X : Cx} {o e f : Expr} {apos cpos : Pos} {td ty tx : TE}
end

section
variable {X : Cx} {pins : List (Addr × Obj)} {σ : St} {H : Hp} {s : Shared} {a : Addr} {kvs : List (Key × V)} {A : Around} {E : Value → Shared → Prop}
end


section
variable {X : Cx} {pins : List (Addr × Obj)} {σ : St} {H : Hp} {s : Shared} {a : Addr} {y : V} {u : Value} {A : Around} {E : Value → Shared → Prop}
end
end L2

namespace Att
open PySem PySem.W PySem.Calls PyProof.Rows

section
variable {prog : Program} {w : World} {A : Around} {E : Value → Shared → Prop} {s : Shared} {K : Frag}

end
end Att

namespace L2
open PySem PySem.Spec PyProof.Rows

end L2

namespace L2
open PySem PySem.Spec PyProof.Rows

end L2

namespace L2
open PySem PySem.Spec PyProof.Rows

section
variable {P : Program} {w : World} {K : PySem.W.Frag} {mg : Str → Option Value} {base : Heap}
end
section
variable {X : Cx}
theorem call_lenD : CallR X (.builtin "len") (fun xs H Q => ∃ a kvs, xs = [V.ref a] ∧ H a = some (.dK kvs) ∧ Q (.int kvs.length) H) := by
  intro pins s σ H xs us Q I r h
  obtain ⟨a, kvs, rfl, ha, q⟩ := h
  obtain ⟨u, rfl, ru⟩ := vals1 r
  cases ru
  exact d_len I (.inl ha) fun t s' I' => ⟨.int kvs.length, H, I', ⟨t, rfl⟩, q⟩
end

section
variable {κ : Type} [DecidableEq κ]
end
end L2

set_option Elab.async false
set_option linter.all false
set_option maxRecDepth 100000
namespace LX
open PySem PySem.Spec PyProof.Rows L2

structure FlyAt (h : Heap) (e T : Addr) (cls fl : Value) : Prop where
  ne : T ≠ e
  ex : ∃ (oe : Obj) (vs : Array Value) (a0 : Value), h.get? e = some oe ∧ oe.cls = cls ∧ oe.data = .fields vs ∧ vs[0]? = some a0 ∧ vs[1]? = some (.ref T)
  tr : ∃ (oT : Obj) (ts : Array Value), h.get? T = some oT ∧ oT.data = .fields ts ∧ ts[3]? = some fl
abbrev Fly (h : Heap) (e T : Addr) (cls : Value) : Prop := FlyAt h e T cls .none

theorem FlyAt.of {h B : Heap} {e : Addr} {cls a0 fl : Value} (x : h.TracedAtW B e cls a0 fl) : ∃ T, FlyAt h e T cls fl ∧ B.get? T = none := by
  obtain ⟨oe, vs, T, oT, ts, he, ⟨hc, h0⟩, hd, h1, hn, hne, hT, hdT, h3⟩ := x
  exact ⟨T, ⟨hne, ⟨oe, vs, a0, he, hc, hd, h0, h1⟩, ⟨oT, ts, hT, hdT, h3⟩⟩, hn⟩
theorem FlyAt.to {h B : Heap} {e T : Addr} {cls fl : Value} (x : FlyAt h e T cls fl) (hn : B.get? T = none) : ∃ a0, h.TracedAtW B e cls a0 fl := by
  obtain ⟨hne, ⟨oe, vs, a0, he, hc, hd, h0, h1⟩, ⟨oT, ts, hT, hdT, h3⟩⟩ := x
  exact ⟨a0, oe, vs, T, oT, ts, he, ⟨hc, h0⟩, hd, h1, hn, hne, hT, hdT, h3⟩

def CXe (P : Program) (w : World) : CXT := fun outer H s E e s' => ∃ (ea T : Addr) (cls : Value) (H' : Hp), e = .ref ea ∧ s'.os = s.os ∧ AllBare s'.gens ∧ Un (frs outer) [] H H' s.heap s'.heap ∧ HOk P w H' s'.heap ∧
  s.heap.get? ea = none ∧ s.heap.get? T = none ∧ H' ea = none ∧ H' T = none ∧ Fly s'.heap ea T cls ∧ E cls none H'

theorem there {P : Program} {w : World} {H : Hp} {h : Heap} {a : Addr} {o : HO} (x : ObjOk P w H h a o) : ∃ u, h.get? a = some u := by
  cases o with
  | lst xs => obtain ⟨_, _, _, _, e⟩ := x; exact ⟨_, e⟩
  | tup xs => obtain ⟨_, _, _, o, e, _⟩ := x; exact ⟨_, e⟩
  | dK kvs => obtain ⟨_, _, _, _, o, _, _, e, _⟩ := x; exact ⟨_, e⟩
  | dT kvs => obtain ⟨_, _, _, _, o, _, _, e, _⟩ := x; exact ⟨_, e⟩
  | set S n => obtain ⟨o, _, _, _, e, _⟩ := x; exact ⟨_, e⟩
  | ins C dx fs => obtain ⟨_, _, _, e, _⟩ := x; exact ⟨_, e⟩
  | own y => exact x
  | xd fs => obtain ⟨_, ⟨_, _, _, e, _⟩, _⟩ := x; exact ⟨_, e⟩
  | rng lo hi => obtain ⟨_, _, _, e⟩ := x; exact ⟨_, e⟩
  | frz ob u => obtain ⟨e, _⟩ := x; exact ⟨_, e⟩
  | tbl ps => exact ⟨_, (show h.get? a = some _ from x)⟩
  | met f y => exact ⟨_, (show h.get? a = some _ from x)⟩
  | ext φ => obtain ⟨_, e, _⟩ := x; exact e

section
variable {X : Cx} {pins : List (Addr × Obj)} {σ : L2.St} {H : Hp} {s : Shared}

structure Loose (X : Cx) (pins : List (Addr × Obj)) (H : Hp) (a : Addr) : Prop where
  new : X.s₀.heap.get? a = none
  free : H a = none
  loc : a ≠ X.env.locals
  cell : ∀ x c, X.env.cells.lookup x = some c → c ≠ a
  pin : ∀ p ∈ X.pn ++ pins, p.1 ≠ a

theorem loose_of (I : Inv X pins σ H s) (hex : X.ex = []) {a : Addr} (h : s.heap.get? a = none) : Loose X pins H a where
  new := by
    cases q : X.s₀.heap.get? a with
    | none => rfl
    | some o =>
      obtain ⟨o', e⟩ := I.base.there a o q (by rw [hex]; exact fun z => nomatch z)
      rw [h] at e; cases e
  free := by
    cases q : H a with
    | none => rfl
    | some u =>
      obtain ⟨o, e⟩ := there (I.hok a u q)
      rw [h] at e; cases e
  loc := fun z => by
    obtain ⟨m, ⟨o, es, ep, ho, _⟩, _⟩ := I.loc
    rw [z, ho] at h; cases h
  cell := fun x c e z => by
    obtain ⟨v, o, ho, _⟩ := I.cell x c e
    rw [z, h] at ho; cases ho
  pin := fun p hp z => by
    have e := (I.pin p hp).1
    rw [z, h] at e; cases e

theorem Loose.mono {H' : Hp} {a : Addr} (l : Loose X pins H a) (h : H' a = none) : Loose X pins H' a := ⟨l.new, h, l.loc, l.cell, l.pin⟩

theorem left_ok {h' : Heap} {xs : List Addr} (I : Inv X pins σ H s) (hex : X.ex = [])
    (h1 : ∀ a ∈ xs, X.s₀.heap.get? a = none ∧ H a = none)
    (kB : ∀ b o, s.heap.get? b = some o → b ∉ xs ++ frs X.stack → h'.get? b = some o)
    (kS : ∀ b o, s.heap.get? b = some o → (∀ vs, o.data ≠ .fields vs) → ∃ sl, h'.get? b = some { o with slots := sl }) :
    Un X.fs [] X.H₀ H X.s₀.heap h' ∧ HOk X.prog X.w H h' := by
  have base : Un X.fs [] X.H₀ H X.s₀.heap s.heap := by have := I.base; rw [hex] at this; exact this
  have nx : ∀ b o, X.s₀.heap.get? b = some o → b ∉ xs := fun b o e hb => by
    have := (h1 b hb).1; rw [this] at e; cases e
  have nL : ∀ b o, X.s₀.heap.get? b = some o → b ≠ X.env.locals := fun b o e => Nat.ne_of_lt (Nat.lt_of_lt_of_le (Heap.lt_size e) I.ok.above)
  have ns : ∀ b o, X.s₀.heap.get? b = some o → b ∉ X.fs → b ∉ xs ++ frs X.stack := fun b o e hb hm =>
    (List.mem_append.mp hm).elim (nx b o e) fun z => (List.mem_cons.mp (I.stkSub b z)).elim (nL b o e) hb
  refine ⟨⟨fun b o e n hb hx => kB b o (base.keep b o e n hb hx) (ns b o e hb), fun b o e n hb hx => ?_, base.free, fun b o e hx => ?_, base.tups, base.frzs, base.tbls⟩, fun a o e => ?_⟩
  · obtain ⟨sl, e1⟩ := base.slot b o e n hb hx
    obtain ⟨_, o2, ho2, hnf⟩ := I.funs.mem hb
    rw [e1] at ho2; cases ho2
    obtain ⟨sl', e2⟩ := kS b _ e1 hnf
    exact ⟨sl', e2⟩
  · obtain ⟨o1, e1⟩ := base.there b o e hx
    by_cases hb : b ∈ X.fs
    · obtain ⟨_, o2, ho2, hnf⟩ := I.funs.mem hb
      obtain ⟨sl', e2⟩ := kS b o2 ho2 hnf
      exact ⟨_, e2⟩
    · exact ⟨o1, kB b o1 e1 (ns b o e hb)⟩
  · refine (I.hok a o e).stay (fun b u hb q => kB b u q fun hm => ?_) (fun _ q => q) fun _ _ q => q
    have tb : ∃ v, H b = some v := by
      rcases hb with z | z
      · exact ⟨o, z ▸ e⟩
      · exact ⟨_, z⟩
    obtain ⟨v, hv⟩ := tb
    rcases List.mem_append.mp hm with z | z
    · have := (h1 b z).2; rw [hv] at this; cases this
    · have := I.stkFree b z; rw [hv] at this; cases this

theorem held_ok {h' : Heap} {xs : List Addr} (I : Inv X pins σ H s) (hex : X.ex = []) (h1 : ∀ a ∈ xs, Loose X pins H a)
    (kB : ∀ b o, s.heap.get? b = some o → b ∉ xs ++ frs X.stack → h'.get? b = some o)
    (kS : ∀ b o, s.heap.get? b = some o → (∀ vs, o.data ≠ .fields vs) → ∃ sl, h'.get? b = some { o with slots := sl }) : Inv X pins σ H { s with heap := h' } := by
  obtain ⟨un, hok⟩ := left_ok I hex (fun a ha => ⟨(h1 a ha).new, (h1 a ha).free⟩) kB kS
  have cellK : ∀ c v, s.heap.IsCell c v → h'.IsCell c v := fun c v ⟨o, ho, hd⟩ => by
    obtain ⟨sl, e⟩ := kS c o ho fun vs z => by rw [hd] at z; cases z
    exact ⟨_, e, hd⟩
  refine ⟨I.ok, I.os, I.bare, by rw [hex]; exact un, ?_, fun x c e => ?_, I.free, I.freeC, fun p hp => ?_, hok, I.len⟩
  · obtain ⟨m, ⟨o, es, ep, ho, hd, r⟩, hl⟩ := I.loc
    obtain ⟨sl, e⟩ := kS _ o ho fun vs z => by rw [hd] at z; cases z
    refine ⟨m, ⟨_, es, ep, e, hd, r⟩, fun i x v e1 e2 e3 => ?_⟩
    obtain ⟨u, ru, l⟩ := hl i x v e1 e2 e3
    refine ⟨u, ru, ?_⟩
    rcases l with l | ⟨k, c, e, z⟩
    · exact .inl l
    · exact .inr ⟨k, c, e, cellK c _ z⟩
  · obtain ⟨v, z⟩ := I.cell x c e
    exact ⟨v, cellK c v z⟩
  · obtain ⟨e, n, ne, nf, d⟩ := I.pin p hp
    refine ⟨kB p.1 p.2 e fun hm => ?_, n, ne, nf, d⟩
    rcases List.mem_append.mp hm with z | z
    · exact (h1 _ z).pin p hp rfl
    · exact (List.mem_cons.mp (I.stkSub _ z)).elim ne nf

theorem newT {h' : Heap} {xs : List Addr} {T : Addr} {oT : Obj} {ts : Array Value} (I : Inv X pins σ H s) (hex : X.ex = []) (h1 : ∀ a ∈ xs, Loose X pins H a)
    (kS : ∀ b o, s.heap.get? b = some o → (∀ vs, o.data ≠ .fields vs) → ∃ sl, h'.get? b = some { o with slots := sl })
    (nT : (PySem.W.hideAll s.heap (xs ++ frs X.stack)).get? T = none) (hT : h'.get? T = some oT) (hd : oT.data = .fields ts) : Loose X pins H T := by
  cases q : s.heap.get? T with
  | none => exact loose_of I hex q
  | some o =>
    have hm : T ∈ xs ++ frs X.stack := Classical.byContradiction fun hm => by rw [PySem.W.hideAll_get _ q hm] at nT; cases nT
    rcases List.mem_append.mp hm with z | z
    · exact h1 _ z
    · obtain ⟨_, o2, ho2, hnf⟩ := I.stack.mem z
      obtain ⟨sl, e3⟩ := kS T o2 ho2 hnf
      rw [e3] at hT
      cases hT
      exact absurd hd (hnf ts)

theorem stack_hide (I : Inv X pins σ H s) (xs : List Addr) : s.heap.FunFrames (PySem.W.hideAll s.heap (xs ++ frs X.stack)) X.stack :=
  PySem.W.funFrames_hide I.stack fun env he a ha => List.mem_append_right _ (List.mem_filterMap.mpr ⟨env, he, ha⟩)

structure Own (X : Cx) : Prop where
  ex : X.ex = []
  stk : X.stack = X.env :: X.outer
  fr : X.env.frame = some X.env.locals

inductive Exc (X : Cx) (pins : List (Addr × Obj)) (H : Hp) (h : Heap) (ea : Addr) (cls : Value) : Prop where
  | new (lo : Loose X pins H ea) (oe : Obj) (vs : Array Value) (a0 : Value) (he : h.get? ea = some oe) (hc : oe.cls = cls) (hd : oe.data = .fields vs) (h0 : vs[0]? = some a0) (h1 : vs[1]? = some .none)
  | fly (lo : Loose X pins H ea) (T : Addr) (lT : Loose X pins H T) (f : FlyAt h ea T cls .none)
  | held (lo : Loose X pins H ea) (T : Addr) (lT : Loose X pins H T) (f : FlyAt h ea T cls (rawInt X.env.locals))
theorem Exc.lo {h : Heap} {ea : Addr} {cls : Value} (x : Exc X pins H h ea cls) : Loose X pins H ea := by cases x <;> assumption

theorem two {a b c : Addr} (h : c ∈ [a, b]) : c = a ∨ c = b := by simpa using h
theorem loose2 {ea T : Addr} (l1 : Loose X pins H ea) (l2 : Loose X pins H T) : ∀ a ∈ [ea, T], Loose X pins H a := fun a ha => by
  rcases two ha with rfl | rfl
  · exact l1
  · exact l2
theorem loose1 {ea : Addr} (l1 : Loose X pins H ea) : ∀ a ∈ [ea], Loose X pins H a := fun a ha => by
  have e : a = ea := by simpa using ha
  subst e; exact l1

theorem note {M : Model} {E : Value → Shared → Prop} {Q : Unit → Shared → Prop} {ea : Addr} {cls : Value} (O : Own X) (I : Inv X pins σ H s) (x : Exc X pins H s.heap ea cls)
    (k : ∀ h' T, Inv X pins σ H { s with heap := h' } → Loose X pins H T → FlyAt h' ea T cls (rawInt X.env.locals) → Q () { s with heap := h' }) : wpAny M X.A (noteFrame (.ref ea) X.env) Q E s := by
  have fr : X.A.frames = some (X.env :: X.outer) := by rw [← O.stk]; exact I.ok.frames
  cases x with
  | new lo oe vs a0 he hc hd h0 h1 =>
    unfold noteFrame
    simp only [O.fr]
    refine wpAny_bind (wpAny_field he hd h1 ?_)
    rw [if_neg (by decide)]
    have F := stack_hide I [ea]
    have F' := F
    rw [O.stk] at F
    refine wpAny_entryW fr F O.fr he (fun b o q => PySem.W.of_hideAll _ q) (PySem.W.hideAll_none _ (by simp)) hd (Array.getElem?_eq_some_iff.mp h1).1 h0 fun h' hN => ?_
    obtain ⟨k1, k2, k3, k4⟩ := hN
    rw [O.stk.symm] at k1 k3
    rw [hc] at k3
    obtain ⟨T, f, nT⟩ := FlyAt.of k3
    obtain ⟨oT, ts, hT, hdT, _⟩ := f.tr
    exact k h' T (held_ok (xs := [ea]) I O.ex (loose1 lo) (fun b o e hb => k1 b o (PySem.W.hideAll_get _ e hb)) k4) (newT (xs := [ea]) I O.ex (loose1 lo) k4 nT hT hdT) f
  | fly lo T lT f =>
    obtain ⟨a0, tr⟩ := f.to (B := PySem.W.hideAll s.heap ([ea, T] ++ frs X.stack)) (PySem.W.hideAll_none _ (by simp))
    have F := stack_hide I [ea, T]
    rw [O.stk] at F tr
    refine wpAny_noteFrame_onW fr F O.fr tr (fun b o q => PySem.W.of_hideAll _ q) (PySem.W.hideAll_none _ (by simp)) fun h' hN => ?_
    obtain ⟨k1, k2, k3, k4⟩ := hN
    rw [O.stk.symm] at k1 k3
    obtain ⟨T', f', nT⟩ := FlyAt.of k3
    obtain ⟨oT, ts, hT, hdT, _⟩ := f'.tr
    exact k h' T' (held_ok (xs := [ea, T]) I O.ex (loose2 lo lT) (fun b o e hb => k1 b o (PySem.W.hideAll_get _ e hb)) k4) (newT (xs := [ea, T]) I O.ex (loose2 lo lT) k4 nT hT hdT) f'
  | held lo T lT f =>
    obtain ⟨a0, tr⟩ := f.to (B := PySem.W.hideAll s.heap ([ea, T] ++ frs X.stack)) (PySem.W.hideAll_none _ (by simp))
    exact wpAny_noteFrame_againW O.fr tr (k s.heap T I lT f)

theorem mark {M : Model} {A : Around} {E : Value → Shared → Prop} {Q : Unit → Shared → Prop} {ea T : Addr} {cls fl : Value} (fl' : Option Addr) (O : Own X) (I : Inv X pins σ H s) (lo : Loose X pins H ea) (lT : Loose X pins H T) (f : FlyAt s.heap ea T cls fl)
    (k : ∀ h', Inv X pins σ H { s with heap := h' } → FlyAt h' ea T cls (fl'.elim Value.none fun f => rawInt f) → Q () { s with heap := h' }) : wpAny M A (setFlight (.ref ea) fl') Q E s := by
  obtain ⟨hne, ⟨oe, vs, a0, he, hc, hd, h0, h1⟩, ⟨oT, ts, hT, hdT, h3⟩⟩ := f
  have hsz3 : 3 < ts.size := (Array.getElem?_eq_some_iff.mp h3).1
  have other : ∀ b, b ≠ T → (s.heap.update T (Obj.mapFields (·.setIfInBounds 3 (fl'.elim Value.none fun f => rawInt f)))).get? b = s.heap.get? b :=
    fun b hb => Heap.get?_update_other _ _ (Ne.symm hb)
  unfold setFlight
  refine wpAny_bind (wpAny_field he hd h1 ?_)
  rw [if_pos (show (Value.ref T != Value.none) = true from by simp)]
  refine wpAny_setField hT hdT hsz3 (k _ ?_ ?_)
  · refine held_ok (xs := [ea, T]) I O.ex (loose2 lo lT) (fun b o e hb => (other b fun z => hb (by simp [z])).trans e) fun b o e hnf => ⟨o.slots, (other b fun z => ?_).trans e⟩
    rw [z, hT] at e
    cases e
    exact hnf ts hdT
  · exact ⟨hne, ⟨oe, vs, a0, (other ea (Ne.symm hne)).trans he, hc, hd, h0, h1⟩, ⟨_, _, Heap.get?_update_self _ hT (Obj.isFreed_of_fields (Obj.data_mapFields hdT _)), Obj.data_mapFields hdT _, by simp [hsz3]⟩⟩

theorem leave {M : Model} {E' : Value → Shared → Prop} {ea : Addr} {cls : Value} {E : XK} (O : Own X) (I : Inv X pins σ H s) (x : Exc X pins H s.heap ea cls) (he : E cls none H) :
    wpAny M X.A (leaving X.env (.ref ea)) (fun _ s'' => CXe X.prog X.w X.outer X.H₀ X.s₀ E (.ref ea) s'') E' s := by
  unfold leaving
  refine wpAny_bind (note O I x fun h' T I' lT f => ?_)
  refine mark none O I' x.lo lT f fun h'' I'' f'' => ?_
  obtain ⟨un, hok⟩ := left_ok (xs := []) (h' := h'') I'' O.ex (fun _ z => nomatch z) (fun b o e _ => e) fun b o e _ => ⟨o.slots, e⟩
  exact ⟨ea, T, cls, H, rfl, I.os, I.bare, un, hok, x.lo.new, lT.new, x.lo.free, lT.free, f'', he⟩
end

def XE (X : Cx) (E : L2.St → XK) : Value → Shared → Prop := fun e s' => ∃ (ea : Addr) (cls : Value) (pins : List (Addr × Obj)) (σ : L2.St) (H : Hp), e = .ref ea ∧ Inv X pins σ H s' ∧ Exc X pins H s'.heap ea cls ∧ E σ cls none H
def wish (X : Cx) (xe : Value → Shared → Prop) : Cx := { X with xe := xe }
theorem ok_wish {X : Cx} {xe : Value → Shared → Prop} (o : X.Ok) : (wish X xe).Ok :=
  ⟨o.mod, o.kind, o.glob, o.blt, o.above, o.inj, o.has, o.cab, o.hd, o.frames, o.stk, o.exf, o.bs, o.bsz, o.noex, o.exfs, o.funs, o.frf⟩
theorem to_wish {X : Cx} {xe : Value → Shared → Prop} {pins : List (Addr × Obj)} {σ : L2.St} {H : Hp} {s : Shared} (I : Inv X pins σ H s) : Inv (wish X xe) pins σ H s :=
  ⟨ok_wish I.ok, I.os, I.bare, I.base, I.loc, I.cell, I.free, I.freeC, I.pin, I.hok, I.len⟩
theorem of_wish {X : Cx} {xe : Value → Shared → Prop} {pins : List (Addr × Obj)} {σ : L2.St} {H : Hp} {s : Shared} (I : Inv (wish X xe) pins σ H s) : Inv X pins σ H s :=
  have o := I.ok
  ⟨⟨o.mod, o.kind, o.glob, o.blt, o.above, o.inj, o.has, o.cab, o.hd, o.frames, o.stk, o.exf, o.bs, o.bsz, o.noex, o.exfs, o.funs, o.frf⟩, I.os, I.bare, I.base, I.loc, I.cell, I.free, I.freeC, I.pin, I.hok, I.len⟩
theorem pss_wish {X : Cx} {xe : Value → Shared → Prop} {b : List Stmt} {t : TS} (h : PSs (wish X xe) b t) (hx : ∀ e s, xe e s → X.xe e s) : PSs X b t := fun pins s σ H D I q =>
  wpAny_mono (h pins s σ H D (to_wish I) q) (fun f s' z => by
    cases f with
    | next => obtain ⟨σ', H', J, q⟩ := z; exact ⟨σ', H', of_wish J, q⟩
    | brk => obtain ⟨σ', H', J, q⟩ := z; exact ⟨σ', H', of_wish J, q⟩
    | cont => obtain ⟨σ', H', J, q⟩ := z; exact ⟨σ', H', of_wish J, q⟩
    | ret u => obtain ⟨v, σ', H', J, r, q⟩ := z; exact ⟨v, σ', H', of_wish J, r, q⟩) hx

def PassesX (CX : CXT) (X : Cx) (E : L2.St → XK) : Prop := ∀ (pins : List (Addr × Obj)) (σ : L2.St) (H : Hp) (s : Shared) (e : Value) (s' : Shared), Inv X pins σ H s → CX X.stack H s (E σ) e s' → X.xe e s'
def RaisesX (X : Cx) (E : L2.St → XK) : Prop := ∀ (pins : List (Addr × Obj)) (σ : L2.St) (H : Hp) (s : Shared) (h' : Heap) (ea : Addr) (cls : Value) (vs : List Value), Inv X pins σ H s → Heap.MadeExcOf s.heap h' ea cls vs → E σ cls none H → X.xe (.ref ea) { s with heap := h' }

section
variable {X : Cx} {E : L2.St → XK}
theorem passX (O : Own X) : PassesX (CXe X.prog X.w) (wish X (XE X E)) E := by
  intro pins σ H1 s1 e s2 I hx
  obtain ⟨ea, T, cls, H2, rfl, os, bare, un, hok, n1, n2, n3, n4, fl, he⟩ := hx
  have I1 := of_wish I
  have I2 := I1.call' (ch := []) os un hok bare (fun b z => nomatch z)
  exact ⟨ea, cls, pins, σ, H2, rfl, I2, .fly ((loose_of I1 O.ex n1).mono n3) T ((loose_of I1 O.ex n2).mono n4) fl, he⟩
theorem raiseX (O : Own X) : RaisesX (wish X (XE X E)) E := by
  intro pins σ H1 s1 h' ea cls vs I hx he
  obtain ⟨t, hea, hnt, htup⟩ := hx.there
  have I1 := of_wish I
  have I2 : Inv X pins σ H1 { s1 with heap := h' } := I1.kept (t' := s1.toks) hx.keeps
  exact ⟨ea, cls, pins, σ, H1, rfl, I2, .new (loose_of I1 O.ex hx.new) _ _ _ hea rfl rfl rfl rfl, he⟩
theorem ownX (O : Own X) {M : Model} : PassesOwn M X.A X.env (XE X E) := by
  rintro e s' ⟨ea, cls, pins, σ, H, rfl, I, x, he⟩
  refine note O I x fun h' T I' lT f => ?_
  obtain ⟨hne, ⟨oe, vs, a0, hoe, hc, hd, h0, h1⟩, tr⟩ := id f
  refine wpAny_bind (wpAny_field hoe hd h1 ?_)
  rw [if_neg (show ¬ ((Value.ref T == Value.none) = true) from by simp)]
  rw [O.fr]
  exact mark (some X.env.locals) O I' x.lo lT f fun h'' I'' f'' => ⟨ea, cls, pins, σ, H, rfl, I'', .held x.lo T lT f'', he⟩
end

section
variable {P : Program} {w : World} {K : PySem.W.Frag} {mg : Str → Option Value} {base : Heap} {N : List Str} {qual : Str} {scope : Scope} {f : Addr} {cd : Value} {A : Around} {outer : List Env} {s : Shared} {H : Hp} {E : XK}
theorem own_cx {CX : CXT} : Own (cxOf CX P w K mg base N qual scope f cd A outer s H E) := ⟨rfl, rfl, rfl⟩
theorem leave_cx : ∀ e s', XE (cxOf (CXe P w) P w K mg base N qual scope f cd A outer s H E) (fun _ => E) e s' → (cxOf (CXe P w) P w K mg base N qual scope f cd A outer s H E).xe e s' := by
  rintro e s' ⟨ea, cls, pins, σ, H1, rfl, I, x, he⟩
  exact leave own_cx I x he
end

open PySem.W in
theorem exc_of_in {K : Frag} {h₀ : Heap} {C : Addr} {bmB : List Value} {newId : String} (X : K.In h₀) (q : excIn K C bmB newId = true) :
    ∃ bm N nm qn bs hdct sn sub ab col dd k0 k1 k2 k3 k5 mN, h₀.get? C = some (excClassObj nm qn C N bs bm hdct sn sub ab col dd k0 k1 k2 k3 k5 newId) ∧ h₀.Ns N mN ∧ mN "__init__" = none ∧ OwnTail h₀ bmB bm := by
  unfold excIn at q
  split at q
  · rename_i dd cd sl ho
    split at q
    · rename_i C' bm k0 k1 k2 k3 n k5 hm hs
      simp only [Bool.and_eq_true, beq_iff_eq, Bool.not_eq_true'] at q
      obtain ⟨⟨⟨⟨⟨rfl, rfl⟩, hdel⟩, ht⟩, hok⟩, hni⟩ := q
      obtain ⟨nm, bs, mro, ns, qn, hd, sn, sub, ab, col, del⟩ := cd
      dsimp only at hm hdel hok hni
      subst hm hdel
      have hsl : sl = #[k0, k1, k2, k3, some (.builtin n), k5] := by
        obtain ⟨l⟩ := sl
        simp only at hs
        rw [hs]
      subst hsl
      exact ⟨bm, ns, nm, qn, bs, hd, sn, sub, ab, col, dd, k0, k1, k2, k3, k5, _, X _ _ ho, .of_isNs (isNs_of_in X hok), nsMap_none_of_in X hok hni, tail_of_in X ht⟩
    · cases q
  · cases q

section
variable {X : Cx} {x : Str} {np cpos pos : Pos} {e : Expr} {es : List Expr} {t : TA} {C : Addr} {B newId initId : String} {bm : List Value}
def tRaise (E : L2.St → XK) (C : Addr) (ta : TA) : TS := fun _ σ H => ta σ H fun vs H1 => vs.length ≤ sizeLine ∧ E σ (.ref C) none H1
theorem ps_raise {E : L2.St → XK} (R : RaisesX X E) (hc : X.calm = true) (hx : PySem.W.excIn X.K C bm newId = true) (FB : ExcBaseFacts B newId initId bm) (hg : Gl X x) (hm : X.mg x = some (.ref C)) (ha : PA X (e :: es) t) (hdb : (x == ("__debug__" : Str)) = false := by decide)
    (he : starEach (e :: es) X.env = (false, eval e X.env) :: starEach es X.env := by rfl) (hpl : (backTo cpos (starEach es X.env)).any (·.1) = false := by rfl) :
    PS X (.Raise (some (.Call (.Name x np) (e :: es) [] cpos)) none pos) (tRaise E C t) := by
  intro pins s σ H D I h
  obtain ⟨tl, N, nm, q, bs, hdct, sn, sub, ab, col, dd, k0, k1, k2, k3, k5, mN, hC, hN, hni, T⟩ := exc_of_in I.ok.mod.kin hx
  refine wpAny_Raise_call_subT (C := C) (nm := nm) (q := q) (N := N) (bs := bs) (bm := tl) (hdct := hdct) (sn := sn) (sub := sub) (ab := ab) (col := col) (dd := dd) (k0 := k0) (k1 := k1) (k2 := k2) (k3 := k3) (k5 := k5)
    FB (mN := mN) (T.hasType FB.hasBase) (I.ok.hd hc) (by rw [he]; show (false || (backTo cpos (starEach es X.env)).any (·.1)) = false; rw [hpl]; rfl) hni (ld_glob I hg hm ⟨rfl, ?_⟩ hdb)
  have w1 := ha cpos pins s σ H _ I h
  rw [he] at w1 ⊢
  exact Calls.evalArgs_plain (thn w1 fun us s1 ⟨vs, H1, I1, r, z, q⟩ => ⟨rfl, by rw [← r.length]; exact z, I1.bk _ _ hC, hN.keeps I1.bk, T.keeps I1.bk, fun h' ea hm => R pins σ H1 s1 h' ea _ _ I1 hm q⟩)
end

def tCallX (sp : Sp) (dvs : List V) (E : L2.St → XK) (t : TA) : TE := fun σ H Q => t σ H fun vs H1 => sp (vs ++ dvs) H1 Q (E σ)
def tMakeX (C : Addr) (sp : Sp) (dvs : List V) (E : L2.St → XK) (t : TA) : TE := fun σ H Q => t σ H fun vs H1 => ∀ x dx, H1 x = none → H1 dx = none → dx ≠ x →
  sp (.ref x :: (vs ++ dvs)) (upd (upd H1 dx (.own x)) x (.ins C dx [])) (fun v H2 => v = .non ∧ Q (.ref x) H2) (E σ)

section
variable {X : Cx} {CX : CXT} {k : Nat} {f C : Addr} {fd : FuncData} {ps : List Str} {sp : Sp} {dvs : List V} {ds : List Value} {E : L2.St → XK} {x m : Str} {p pos apos : Pos} {e o : Expr} {es : List Expr} {ta : TE} {t : TA}

theorem run_fnX {pins : List (Addr × Obj)} {σ : L2.St} {H : Hp} {s : Shared} {Q : VK} {us : List Value} {vs : List V} (F : FnOk X.prog X.w X.K X.mg X.base CX k f fd ps sp) (hr : Room k X.A) (hb : Binds X.K fd ps ds) (hd : Vals dvs ds) (hx : PassesX CX X E)
    (I : Inv X pins σ H s) (r : Vals vs us) (h : sp (vs ++ dvs) H Q (E σ)) : wpAny (model X.prog X.w) X.A (call (.ref f) us) (EP X pins σ Q) X.xe s := by
  have r2 : Vals (vs ++ dvs) (us ++ ds) := r.append hd
  have hl : (us ++ ds).length = ps.length := by rw [← r2.length]; exact F.len _ _ _ _ h
  refine wpAny_call (codeAny_mono (F.run X.A X.stack s H ⟨us, []⟩ (us ++ ds) (vs ++ dvs) Q (E σ) hr I.env0 (hb s us I.kIn hl) r2 h) fun r s' hq => ?_)
  cases r with
  | error e => exact hx pins σ H s e s' I hq
  | ok fl =>
    cases fl with
    | ret u => exact I.after hq
    | next => exact False.elim hq
    | brk => exact False.elim hq
    | cont => exact False.elim hq

theorem pe_callX (F : FnOk X.prog X.w X.K X.mg X.base CX k f fd ps sp) (hr : Room k X.A) (hg : Gl X x) (hm : X.mg x = some (.ref f)) (hk : PySem.W.keepIn X.K (.ref f) = true) (hb : Binds X.K fd ps ds) (hd : Vals dvs ds) (hx : PassesX CX X E)
    (ha : PA X (e :: es) t) (hdb : (x == ("__debug__" : Str)) = false := by decide) (he : starEach (e :: es) X.env = (false, eval e X.env) :: starEach es X.env := by rfl) (hpl : (backTo pos (starEach es X.env)).any (·.1) = false := by rfl) :
    PE X (.Call (.Name x p) (e :: es) [] pos) (tCallX sp dvs E t) := by
  intro pins s σ H Q I h
  refine wpAny_Call_Name_kw (ld_glob I hg hm ?_ hdb)
  refine PySem.W.callWith_K (h₀ := X.base) I.ok.mod.kin hk (thn (ha pos pins s σ H _ I h) fun us s1 ⟨vs, H1, I1, r, q⟩ => ⟨I1.kIn, ?_⟩) he hpl
  exact run_fnX F hr hb hd hx I1 r q
theorem run_makeX {pins : List (Addr × Obj)} {σ : L2.St} {H : Hp} {s : Shared} {Q : VK} {us : List Value} {vs : List V} (M : Mk X.K C f) (F : FnOk X.prog X.w X.K X.mg X.base CX k f fd ps sp) (hr : Room (k + 1) X.A) (hb : Binds X.K fd ps ds) (hd : Vals dvs ds)
    (hx : PassesX CX X E) (I : Inv X pins σ H s) (r : Vals vs us)
    (h : ∀ x dx, H x = none → H dx = none → dx ≠ x → sp (.ref x :: (vs ++ dvs)) (upd (upd H dx (.own x)) x (.ins C dx [])) (fun v H2 => v = .non ∧ Q (.ref x) H2) (E σ)) :
    wpAny (model X.prog X.w) X.A (call (.ref C) us) (EP X pins σ Q) X.xe s := by
  have hq := h (s.heap.objs.size + 1) s.heap.objs.size (I.hok.fresh (Nat.le_succ _)) (I.hok.fresh (Nat.le_refl _)) (Nat.ne_of_lt (Nat.lt_succ_self _))
  have I2 := Inv.made (C := C) I
  have r2 : Vals (V.ref (s.heap.objs.size + 1) :: (vs ++ dvs)) (Value.ref (s.heap.objs.size + 1) :: (us ++ ds)) := .cons rfl (r.append hd)
  have hl : (Value.ref (s.heap.objs.size + 1) :: us ++ ds).length = ps.length := by
    have e := r2.length
    rw [F.len _ _ _ _ hq] at e
    exact e.symm
  refine wpAny_call (make_map (f := f) I.kIn M.makes M.init (beq_iff_eq.mp M.fn) (codeAny_mono (F.run _ X.stack _ _ ⟨Value.ref (s.heap.objs.size + 1) :: us, []⟩ (Value.ref (s.heap.objs.size + 1) :: (us ++ ds)) _ _ (E σ) (hr.make C us [])
    (I2.env0.make C us []) (hb _ (Value.ref (s.heap.objs.size + 1) :: us) I2.kIn hl) r2 hq) fun r s' hq' => ?_))
  cases r with
  | error e => exact hx pins σ _ _ e s' I2 hq'
  | ok fl =>
    cases fl with
    | ret u =>
      obtain ⟨v, H', I3, rv, ev, q3⟩ := I2.after hq'
      subst ev
      exact ⟨rv, ⟨V.ref (s.heap.objs.size + 1), H', I3, rfl, q3⟩⟩
    | next => exact False.elim hq'
    | brk => exact False.elim hq'
    | cont => exact False.elim hq'
theorem pe_makeX (M : Mk X.K C f) (F : FnOk X.prog X.w X.K X.mg X.base CX k f fd ps sp) (hr : Room (k + 1) X.A) (hg : Gl X x) (hm : X.mg x = some (.ref C)) (hb : Binds X.K fd ps ds) (hd : Vals dvs ds) (hx : PassesX CX X E)
    (ha : PA X (e :: es) t) (hdb : (x == ("__debug__" : Str)) = false := by decide) (he : starEach (e :: es) X.env = (false, eval e X.env) :: starEach es X.env := by rfl) (hpl : (backTo pos (starEach es X.env)).any (·.1) = false := by rfl) :
    PE X (.Call (.Name x p) (e :: es) [] pos) (tMakeX C sp dvs E t) := by
  intro pins s σ H Q I h
  refine wpAny_Call_Name_kw (ld_glob I hg hm ?_ hdb)
  refine PySem.W.callWith_K (h₀ := X.base) I.ok.mod.kin M.kp (thn (ha pos pins s σ H _ I h) fun us s1 ⟨vs, H1, I1, r, q⟩ => ⟨I1.kIn, ?_⟩) he hpl
  exact run_makeX M F hr hb hd hx I1 r q
end

section
variable {P : Program} {w : World} {K : PySem.W.Frag} {mg : Str → Option Value} {base : Heap}
def bodyCx (P : Program) (w : World) (K : PySem.W.Frag) (mg : Str → Option Value) (base : Heap) (N : List Str) (qual : Str) (scope : Scope) (f : Addr) (cd : Value) (A : Around) (outer : List Env) (s : Shared) (H : Hp) (E : XK) : Cx :=
  wish (cxOf (CXe P w) P w K mg base N qual scope f cd A outer s H E) (XE (cxOf (CXe P w) P w K mg base N qual scope f cd A outer s H E) fun _ => E)
theorem okX {x qual : Str} {st : Stmt} {f : Addr} {fd : FuncData} {N ps : List Str} {k : Nat} {sp : Sp} (F : Fun K x qual st f fd) (S : FnScope N ps (defScope st)) (len : ∀ vs H Q E, sp vs H Q E → vs.length = ps.length)
    (hbody : ∀ (cdv : Value) (A : Around) (outer : List Env) (s : Shared) (H : Hp) (vs : List V) (Q : VK) (E : XK), Room k (A.deeper (envOfC qual (defScope st) s.heap.objs.size f cdv)) → sp vs H Q E →
      ∃ t, PSs (bodyCx P w K mg base N qual (defScope st) f cdv A outer s H E) (defBody st) t ∧ t { nx := fun _ H' => Q .non H', rt := Q } (start N vs) H) : FnOk P w K mg base (CXe P w) (k + 1) f fd ps sp := by
  obtain ⟨oc, od, kV, doc, pm, an, cdv, ct, osl, rfl, lk, hcd⟩ := F.ex
  refine fn_of lk hcd S len fun A outer s H vs Q E hr hsp => ?_
  obtain ⟨t, h, q⟩ := hbody cdv A outer s H vs Q E hr hsp
  exact ⟨t, pss_wish h leave_cx, q⟩
end
end LX

set_option Elab.async false
set_option linter.all false
set_option maxRecDepth 100000
namespace LX
open PySem PySem.Spec PyProof.Rows L2

theorem find_erase {α : Type} {p : α → Bool} : ∀ {l : List α} {i : Nat} {a : α}, l[i]? = some a → p a = false → (l.eraseIdx i).find? p = l.find? p
  | [], i, a, h, _ => by simp at h
  | x :: l, 0, a, h, hp => by
    simp at h; subst h
    show l.find? p = _
    rw [List.find?_cons, hp]
  | x :: l, i + 1, a, h, hp => by
    show (x :: l.eraseIdx i).find? p = _
    rw [List.find?_cons, List.find?_cons]
    cases p x with
    | true => rfl
    | false => exact find_erase (l := l) (i := i) (by simpa using h) hp

section
variable {M : Model} {A : Around} {E : Value → Shared → Prop} {s : Shared}
theorem nsDel_but {a : Addr} {m : Str → Option Value} {name : Str} {Q : Bool → Shared → Prop} (hn : s.heap.Ns a m) (hs : (m name).isSome = true)
    (hQ : ∀ h' m', h'.Ns a m' → (∀ y, y ≠ name → m' y = m y) → Heap.SameBut a s.heap h' → Q true { s with heap := h' }) : wpAny M A (nsDel a name) Q E s := by
  obtain ⟨o, es, ep, ho, hd, hk, hm⟩ := id hn
  have hany : es.any (·.refKey) = false := by
    rw [Array.any_eq_false']; intro e he; obtain ⟨n, t, h⟩ := hk e he; simp [DictEntry.refKey, h]
  have hsome : (m name).isSome = es.any (·.key.isStr name) := by
    rw [← hm name]; simp only [nsFind, findBy, Option.isSome_map]
    rw [Bool.eq_iff_iff]; simp only [Array.find?_isSome, Array.any_eq_true]
    constructor
    · rintro ⟨x, hx, hp⟩; obtain ⟨i, hi, rfl⟩ := Array.mem_iff_getElem.mp hx; exact ⟨i, hi, hp⟩
    · rintro ⟨i, hi, hp⟩; exact ⟨_, Array.getElem_mem hi, hp⟩
  have hhas : nsHas name o = pure (es.any (·.key.isStr name)) := by
    rw [nsHas_eq]; unfold nsHasByArray; rw [hd]
    show (if (es.any fun x => x.key.isStr name) = true then _ else _) = _
    generalize (es.any fun x => x.key.isStr name) = b
    cases b <;> simp [hany]
  unfold nsDel
  refine wpAny_bind (wpAny_loadPart ho ?_)
  rw [hhas]
  refine wpAny_bind (wpAny_pure ?_)
  rw [← hsome, hs]
  refine wpAny_bind (wpAny_updatePart ho (wpAny_pure ?_))
  have key : ∃ m', (s.heap.update a (Obj.dropName name)).Ns a m' ∧ ∀ y, y ≠ name → m' y = m y := by
    obtain ⟨cl, d, dt, sl⟩ := o
    subst hd
    cases hi : es.findIdx? (·.key.isStr name) with
    | some i =>
      refine ⟨_, ⟨_, _, ep + 1, Heap.get?_update_self _ ho (by simp only [Obj.dropName_eq, Obj.dropNameByArray, hi] <;> rfl), (by simp only [Obj.dropName_eq, Obj.dropNameByArray, hi] <;> rfl), hk.erase i, fun _ => rfl⟩, fun y hy => ?_⟩
      rw [← hm y]
      obtain ⟨hlt, hp, _⟩ := Array.findIdx?_eq_some_iff_getElem.mp hi
      have hpy : (es[i].key.isStr y) = false := by
        obtain ⟨n, t, hkey⟩ := hk _ (Array.getElem_mem hlt)
        rw [hkey] at hp ⊢
        have e1 : n = name := by simpa [Value.isStr] using hp
        simp only [Value.isStr]
        subst e1
        simp [Ne.symm hy]
      unfold nsFind findBy
      congr 1
      rw [← Array.find?_toList, ← Array.find?_toList]
      have e2 : (es.eraseIdxIfInBounds i).toList = es.toList.eraseIdx i := by
        rw [Array.eraseIdxIfInBounds_eq]; simp [hlt]
      first
        | (rw [e2]; exact find_erase (a := es[i]) (by simp [hlt]) hpy)
        | (simp only [Array.toList_eraseIdx]; exact find_erase (a := es[i]) (by simp [hlt]) hpy)
        | (simp only [Array.toList_eraseIdxIfInBounds]; exact find_erase (a := es[i]) (by simp [hlt]) hpy)
    | none => exact ⟨_, ⟨_, _, ep, Heap.get?_update_self _ ho (by simp only [Obj.dropName_eq, Obj.dropNameByArray, hi] <;> rfl), (by simp only [Obj.dropName_eq, Obj.dropNameByArray, hi] <;> rfl), hk, fun _ => rfl⟩, fun y hy => (hm y)⟩
  obtain ⟨m', hm', hy⟩ := key
  exact hQ _ m' hm' hy (Heap.SameBut.update ..)
end

section
variable {X : Cx} {pins : List (Addr × Obj)} {σ : L2.St} {H : Hp} {s : Shared}
theorem name_goes {M : Model} {E : Value → Shared → Prop} {i : Nat} {n : Str} {pos : Pos} {Q : Unit → Shared → Prop} (I : Inv X pins σ H s) (hN : X.N.Nodup) (hi : X.N[i]? = some n) (hl : X.env.scope.names.lookup n = some .local)
    (h : ∀ s', Inv X pins (σ.set i none) H s' → Q () s') : wpAny M X.A (do bindName X.env n .none; unbindBehindTheSuite X.env n pos) Q E s := by
  have hp : (X.env.scope.kind == .class || (X.env.scope.kind == .module && X.env.locals != X.env.globals)) = false := by rw [I.ok.kind]; rfl
  have hkl : X.env.kindOf n = some .local := hl
  refine wpAny_bind (wpAny_bindName (store_ok (v := .non) I hN hi (Or.inl hl) rfl (fun s1 I1 => ?_) (Or.inr hl)))
  unfold unbindBehindTheSuite
  refine wpAny_onRaise ?_
  unfold unbindName
  refine wpAny_bind (wpAny_point (wpAny_bind ?_))
  unfold deleteName
  simp only [hkl, hp]
  rw [if_neg (by decide)]
  obtain ⟨m, hn, hlk⟩ := I1.loc
  have hiσ : i < σ.length := by rw [I.len]; exact (List.getElem?_eq_some_iff.mp hi).1
  have hsn : (m n).isSome = true := by
    obtain ⟨u, r, l⟩ := hlk i n .non hi (by rw [List.getElem?_set_self hiσ]) (Or.inl hl)
    rcases l with ⟨_, e⟩ | ⟨k, _⟩
    · rw [e]; rfl
    · rw [hkl] at k; rcases k with k | k <;> cases k
  refine wpAny_bind (nsDel_but hn hsn fun h2 m2 hn2 hy2 hs2 => ?_)
  simp only [if_true, Option.isSome_some, Bool.not_true, Bool.false_eq_true, if_false]
  refine wpAny_pure (wpAny_point (h _ ?_))
  obtain ⟨oL, _, _, hoL, _⟩ := id hn
  have keepE : ∀ b o, b ≠ X.env.locals → s1.heap.get? b = some o → h2.get? b = some o := fun b o hb e => (hs2.2 b hb).trans e
  have base := I1.base
  refine ⟨I1.ok, I1.os, I1.bare, ⟨fun b o e n hb hx => ?_, fun b o e n hb hx => ?_, base.free, fun b o e hx => ?_, base.tups, base.frzs, base.tbls⟩, ⟨m2, hn2, fun j y v e1 e2 e3 => ?_⟩, fun y c e => ?_, I1.free, I1.freeC, fun p hp' => ?_, fun b u e => ?_, by rw [List.length_set]; exact I.len⟩
  · exact keepE b o (Nat.ne_of_lt (Nat.lt_of_lt_of_le (Heap.lt_size e) I1.ok.above)) (base.keep b o e n hb hx)
  · obtain ⟨sl, e1⟩ := base.slot b o e n hb hx
    exact ⟨sl, keepE b _ (Nat.ne_of_lt (Nat.lt_of_lt_of_le (Heap.lt_size e) I1.ok.above)) e1⟩
  · obtain ⟨o', e1⟩ := base.there b o e hx
    exact ⟨o', keepE b _ (Nat.ne_of_lt (Nat.lt_of_lt_of_le (Heap.lt_size e) I1.ok.above)) e1⟩
  · by_cases hj : j = i
    · subst hj
      rw [List.getElem?_set_self hiσ] at e2
      cases e2
    · have e2' : (σ.set i (some V.non))[j]? = some (some v) := by
        rw [List.getElem?_set_ne (Ne.symm hj)] at e2 ⊢
        exact e2
      obtain ⟨u, r, l⟩ := hlk j y v e1 e2' e3
      refine ⟨u, r, ?_⟩
      rcases l with ⟨k, e⟩ | ⟨k, c, e, z⟩
      · have : y ≠ n := fun e => hj (nodup_ix hN e1 (e ▸ hi))
        exact .inl ⟨k, by rw [hy2 y this]; exact e⟩
      · exact .inr ⟨k, c, e, z.sameBut hs2 (I1.cne y c e)⟩
  · obtain ⟨w', z⟩ := I1.cell y c e
    exact ⟨w', z.sameBut hs2 (I1.cne y c e)⟩
  · obtain ⟨e, n, ne, nf, d⟩ := I1.pin p hp'
    exact ⟨keepE p.1 p.2 ne e, n, ne, nf, d⟩
  · refine (I1.hok b u e).stay (fun c v hc q => keepE c v ?_ q) (fun _ q => q) fun _ _ q => q
    rintro rfl
    rcases hc with rfl | hc
    · rw [I1.free] at e; cases e
    · rw [I1.free] at hc; cases hc
end

/-- within an except suite: e is being handled, its object is oe -/
def markCx (X : Cx) (ea : Addr) (oe : Obj) (xe : Value → Shared → Prop) : Cx := { X with A := X.A.mark (some (.ref ea)), calm := false, pn := X.pn ++ [(ea, oe)], xe := xe }
section
variable {X : Cx} {pins : List (Addr × Obj)} {σ : L2.St} {H : Hp} {s : Shared} {ea : Addr} {oe : Obj} {xe : Value → Shared → Prop}
theorem to_mark (I : Inv X pins σ H s) (lo : Loose X pins H ea) {vs : Array Value} (he : s.heap.get? ea = some oe) (hd : oe.data = .fields vs) : Inv (markCx X ea oe xe) pins σ H s := by
  have o := I.ok
  refine ⟨⟨o.mod, o.kind, o.glob, o.blt, o.above, o.inj, o.has, o.cab, (fun z => nomatch z), o.frames, o.stk, o.exf, o.bs, o.bsz, o.noex, o.exfs, o.funs, o.frf⟩, I.os, I.bare, I.base, I.loc, I.cell, I.free, I.freeC, fun p hp => ?_, I.hok, I.len⟩
  have hp' : p ∈ (X.pn ++ [(ea, oe)]) ++ pins := hp
  rcases List.mem_append.mp hp' with z | z
  · rcases List.mem_append.mp z with z | z
    · exact I.pin p (List.mem_append_left _ z)
    · have e : p = (ea, oe) := by simpa using z
      subst e
      refine ⟨he, lo.free, lo.loc, fun hb => ?_, fun v z => ?_⟩
      · obtain ⟨_, o2, ho2, hnf⟩ := I.funs.mem hb
        rw [he] at ho2; cases ho2
        exact hnf vs hd
      · have z' : oe.data = .cell v := z
        rw [hd] at z'; cases z'
  · exact I.pin p (List.mem_append_right _ z)
theorem of_mark (ok : X.Ok) (I : Inv (markCx X ea oe xe) pins σ H s) : Inv X pins σ H s :=
  ⟨ok, I.os, I.bare, I.base, I.loc, I.cell, I.free, I.freeC, fun p hp => I.pin p ((List.mem_append.mp hp).elim (fun z => List.mem_append_left _ (List.mem_append_left _ z)) (List.mem_append_right _)), I.hok, I.len⟩
theorem sp_mark (ok : X.Ok) {D : Ends} {f : Flow} (h : SP (markCx X ea oe xe) pins D f s) : SP X pins D f s := by
  cases f with
  | next => obtain ⟨σ', H', J, q⟩ := h; exact ⟨σ', H', of_mark ok J, q⟩
  | brk => obtain ⟨σ', H', J, q⟩ := h; exact ⟨σ', H', of_mark ok J, q⟩
  | cont => obtain ⟨σ', H', J, q⟩ := h; exact ⟨σ', H', of_mark ok J, q⟩
  | ret u => obtain ⟨v, σ', H', J, r, q⟩ := h; exact ⟨v, σ', H', of_mark ok J, r, q⟩
end

def PH (X : Cx) (hs : List ExceptHandler) (th : Value → TS) : Prop := ∀ (pins : List (Addr × Obj)) (σ : L2.St) (H : Hp) (s : Shared) (ea T : Addr) (cls : Value) (D : Ends), Inv X pins σ H s → Loose X pins H ea → Loose X pins H T → FlyAt s.heap ea T cls .none → th cls D σ H →
  wpAny (model X.prog X.w) X.A (handleBy (.ref ea) X.env hs) (SP X pins D) X.xe s
section
variable {X : Cx} {c n : Str} {np pos : Pos} {b₀ : Stmt} {suite : List Stmt} {rest : List ExceptHandler} {C : Addr} {ts : TS} {tr : Value → TS}
def hNil : Value → TS := fun _ _ _ _ => False
theorem ph_nil : PH X [] hNil := fun _ _ _ _ _ _ _ _ _ _ _ _ h => h.elim
theorem looks_cls {M : Model} {h : Heap} {ea : Addr} {oe : Obj} {cls : Value} (he : h.get? ea = some oe) (hc : oe.cls = cls) : PySem.W.Looks M h (typeOf (.ref ea)) cls := hc ▸ (PySem.W.Looks.ld he).andThen .now
def hAs (K : PySem.W.Frag) (C : Addr) (i : Nat) (ts : Addr → Obj → TS) (tr : Value → TS) : Value → TS := fun cls D σ H => ∃ b, PySem.W.exmOne K cls (.ref C) = some b ∧
  if b = true then ∀ ea oe, oe.cls = cls → ts ea oe { nx := fun σ' H' => D.nx (σ'.set i none) H', rt := D.rt, bk := fun σ' H' => D.bk (σ'.set i none) H', ct := fun σ' H' => D.ct (σ'.set i none) H' } (σ.set i (some (.ref ea))) H else tr cls D σ H
theorem ph_as {i : Nat} {ts : Addr → Obj → TS} (O : Own X) (hN : X.N.Nodup) (hi : X.N[i]? = some n) (hl : X.env.scope.names.lookup n = some .local) (hg : Gl X c) (hm : X.mg c = some (.ref C)) (hsuite : ∀ ea oe xe, PSs (markCx X ea oe xe) (b₀ :: suite) (ts ea oe)) (hr : PH X rest tr)
    (hdb : (c == ("__debug__" : Str)) = false := by decide) :
    PH X (.ExceptHandler (some (.Name c np)) (some n) (b₀ :: suite) pos :: rest) (hAs X.K C i ts tr) := by
  intro pins σ H s ea T cls D I lo lT f h
  obtain ⟨b, hx, h⟩ := h
  obtain ⟨hne, ⟨oe, vs, a0, he, hc, hd, h0, h1⟩, tr'⟩ := id f
  refine wpAny_handleBy_cons (codeAny_handlers_test (ld_glob (X := markCx X ea oe X.xe) (to_mark I lo he hd) hg hm ?_ hdb)) (by intro q; cases q)
  refine (PySem.W.exm_one I.kIn (looks_cls he hc) hx).here ?_
  cases b with
  | true =>
    rw [if_pos rfl] at h
    refine codeAny_handlers_suite_as (mark none O I lo lT f fun h' I2 f2 => ?_)
    obtain ⟨_, ⟨oe2, vs2, _, he2, hc2, hd2, _, _⟩, _⟩ := id f2
    refine store_ok2 (v := .ref ea) I2 hN hi (Or.inl hl) rfl (fun s3 I3 hsb => ?_) (Or.inr hl)
    have he3 : s3.heap.get? ea = some oe2 := by
      obtain ⟨a, sb, ha⟩ := hsb
      refine (sb.2 ea ?_).trans he2
      rcases ha with z | z
      · rw [z]; exact lo.loc
      · exact Ne.symm (lo.cell n a z)
    refine thn (hsuite ea oe2 _ pins _ _ H _ (to_mark I3 lo he3 hd2) (h ea oe2 hc2)) fun fl s' q => ?_
    have q' := sp_mark I.ok q
    cases fl with
    | next => obtain ⟨σ', H', J, q⟩ := q'; exact name_goes J hN hi hl fun s4 J4 => ⟨_, H', J4, q⟩
    | brk => obtain ⟨σ', H', J, q⟩ := q'; exact name_goes J hN hi hl fun s4 J4 => ⟨_, H', J4, q⟩
    | cont => obtain ⟨σ', H', J, q⟩ := q'; exact name_goes J hN hi hl fun s4 J4 => ⟨_, H', J4, q⟩
    | ret u => obtain ⟨v, σ', H', J, r, q⟩ := q'; exact name_goes J hN hi hl fun s4 J4 => ⟨v, _, H', J4, r, q⟩
  | false =>
    rw [if_neg Bool.false_ne_true] at h
    exact hr pins σ H s ea T cls D I lo lT f h
end

def pinCx (X : Cx) (pins : List (Addr × Obj)) : Cx := { X with pn := X.pn ++ pins }
def tryCx (X : Cx) (pins : List (Addr × Obj)) (E : L2.St → XK) : Cx := wish (pinCx X pins) (XE (pinCx X pins) E)
section
variable {X : Cx} {pins pins' : List (Addr × Obj)} {σ : L2.St} {H : Hp} {s : Shared}
theorem ok_pin (o : X.Ok) : (pinCx X pins).Ok := ⟨o.mod, o.kind, o.glob, o.blt, o.above, o.inj, o.has, o.cab, o.hd, o.frames, o.stk, o.exf, o.bs, o.bsz, o.noex, o.exfs, o.funs, o.frf⟩
theorem to_pin (I : Inv X pins σ H s) : Inv (pinCx X pins) [] σ H s :=
  ⟨ok_pin I.ok, I.os, I.bare, I.base, I.loc, I.cell, I.free, I.freeC, fun p hp => I.pin p (by have hp' : p ∈ (X.pn ++ pins) ++ [] := hp; simpa using hp'), I.hok, I.len⟩
theorem of_pin (ok : X.Ok) (I : Inv (pinCx X pins) pins' σ H s) : Inv X pins σ H s :=
  ⟨ok, I.os, I.bare, I.base, I.loc, I.cell, I.free, I.freeC, fun p hp => I.pin p (List.mem_append_left _ hp), I.hok, I.len⟩
theorem loose_pin {a : Addr} (l : Loose (pinCx X pins) pins' H a) : Loose X pins H a := ⟨l.new, l.free, l.loc, l.cell, fun p hp => l.pin p (List.mem_append_left _ hp)⟩
theorem exc_pin {h : Heap} {ea : Addr} {cls : Value} (x : Exc (pinCx X pins) pins' H h ea cls) : Exc X pins H h ea cls := by
  cases x with
  | new lo oe vs a0 he hc hd h0 h1 => exact .new (loose_pin lo) oe vs a0 he hc hd h0 h1
  | fly lo T lT f => exact .fly (loose_pin lo) T (loose_pin lT) f
  | held lo T lT f => exact .held (loose_pin lo) T (loose_pin lT) f
theorem own_pin (O : Own X) : Own (pinCx X pins) := ⟨O.ex, O.stk, O.fr⟩
end
def tTry (tb : (L2.St → XK) → TS) (th : Value → TS) : TS := fun D σ H => tb (fun σ' cls _ H' => th cls D σ' H') D σ H
theorem ps_try {X : Cx} {body : List Stmt} {h₀ : ExceptHandler} {hs : List ExceptHandler} {pos : Pos} {tb : (L2.St → XK) → TS} {th : Value → TS} (O : Own X) (hb : ∀ pins E, PSs (tryCx X pins E) body (tb E)) (hh : PH X (h₀ :: hs) th) :
    PS X (.Try body (h₀ :: hs) [] [] pos) (tTry tb th) := by
  intro pins s σ H D I h
  refine wpAny_Try_except (wpAny_mono (hb pins _ [] s σ H D (to_wish (to_pin I)) h) (fun f s1 q => ?_) fun e s1 q => ?_)
  · cases f with
    | next => obtain ⟨σ', H', J, q⟩ := q; exact wpAny_execs_nil ⟨σ', H', of_pin I.ok (of_wish J), q⟩
    | brk => obtain ⟨σ', H', J, q⟩ := q; exact ⟨σ', H', of_pin I.ok (of_wish J), q⟩
    | cont => obtain ⟨σ', H', J, q⟩ := q; exact ⟨σ', H', of_pin I.ok (of_wish J), q⟩
    | ret u => obtain ⟨v, σ', H', J, r, q⟩ := q; exact ⟨v, σ', H', of_pin I.ok (of_wish J), r, q⟩
  · obtain ⟨ea, cls, pins', σ', H', rfl, J, x, he⟩ := q
    have J' := of_pin I.ok J
    have x' := exc_pin x
    refine note O J' x' fun h' T I' lT f => ?_
    exact mark none O I' x'.lo lT f fun h'' I'' f'' => hh pins σ' H' _ ea T cls D I'' x'.lo lT f'' he
theorem passTry {X : Cx} {pins : List (Addr × Obj)} {E : L2.St → XK} (O : Own X) : PassesX (CXe X.prog X.w) (tryCx X pins E) E := passX (X := pinCx X pins) (own_pin O)
end LX

set_option Elab.async false
set_option linter.all false
set_option maxRecDepth 100000
namespace LX
open PySem PySem.Spec PyProof.Rows L2

section
variable {X : Cx} {pins : List (Addr × Obj)} {σ : L2.St} {H : Hp} {s : Shared}
theorem track {D : Addr} {o : HO} (I : Inv X pins σ H s) (l : Loose X pins H D) (new : ObjOk X.prog X.w (upd H D o) s.heap D o) : Inv X pins σ (upd H D o) s := by
  have hn := l.free
  refine ⟨I.ok, I.os, I.bare, ⟨I.base.keep, I.base.slot, fun b ob e n hx => ?_, I.base.there, fun b xs e => ?_, fun b ob u e => ?_, fun b ps e => ?_⟩, I.loc, I.cell, ?_, fun x c e => ?_, fun p hp => ?_, fun b u e => ?_, I.len⟩
  · rw [upd_ne (fun z => by rw [z, l.new] at e; cases e)]; exact I.base.free b ob e n hx
  · have e' := I.base.tups b xs e; rw [upd_ne (ne_of_none e' hn)]; exact e'
  · have e' := I.base.frzs b ob u e; rw [upd_ne (ne_of_none e' hn)]; exact e'
  · obtain ⟨m, e'⟩ := I.base.tbls b ps e; exact ⟨m, by rw [upd_ne (ne_of_none e' hn)]; exact e'⟩
  · rw [upd_ne (Ne.symm l.loc)]; exact I.free
  · rw [upd_ne (l.cell x c e)]; exact I.freeC x c e
  · obtain ⟨e, n, r⟩ := I.pin p hp
    exact ⟨e, by rw [upd_ne (l.pin p hp)]; exact n, r⟩
  · by_cases hb : b = D
    · subst hb; rw [upd_same] at e; cases e; exact new
    · rw [upd_ne hb] at e
      exact (I.hok b u e).stay (fun c v _ q => q) (fun c q => by rw [upd_ne (ne_of_none q hn)]; exact q) fun c xs q => by rw [upd_ne (ne_of_none q hn)]; exact q
end

def compOk (scope : Scope) (x : Str) (fv : List Str) (sc : Scope) : Bool :=
  (scope.kind == .function) && (scope.names.lookup x == some .local) && scope.names.all (fun y => y.2 != .cell && (y.2 != .local || scope.names.lookup y.1 == some .local) && (y.2 != .free || sc.names.lookup y.1 == some .cell || sc.names.lookup y.1 == some .free)) &&
  fv.all (fun y => scope.names.contains (y, .free) && scope.names.lookup y == some .free)
structure CompOk (scope : Scope) (x : Str) (fv : List Str) (sc : Scope) : Prop where
  kind : scope.kind = .function
  var : scope.names.lookup x = some .local
  nocell : ∀ y ∈ scope.names, y.2 ≠ .cell
  loc : ∀ y ∈ scope.names, y.2 = .local → scope.names.lookup y.1 = some .local
  free : ∀ y ∈ scope.names, y.2 = .free → sc.names.lookup y.1 = some .cell ∨ sc.names.lookup y.1 = some .free
  fv : ∀ y ∈ fv, (y, .free) ∈ scope.names ∧ scope.names.lookup y = some .free
theorem compOk_of {scope : Scope} {x : Str} {fv : List Str} {sc : Scope} (h : compOk scope x fv sc = true) : CompOk scope x fv sc := by
  unfold compOk at h
  simp only [Bool.and_eq_true, beq_iff_eq, List.all_eq_true, Bool.or_eq_true, bne_iff_ne, ne_eq, List.contains_iff_mem] at h
  obtain ⟨⟨⟨h1, h2⟩, h3⟩, h4⟩ := h
  refine ⟨h1, h2, fun y hy => (h3 y hy).1.1, fun y hy e => ?_, fun y hy e => ?_, fun y hy => h4 y hy⟩
  · rcases (h3 y hy).1.2 with z | z
    · exact absurd e z
    · exact z
  · rcases (h3 y hy).2 with (z | z) | z
    · exact absurd e z
    · exact .inl z
    · exact .inr z

theorem closure_of {scope : Scope} {env : Env} (h : ∀ y ∈ scope.names, y.2 = .free → ∃ c, env.cells.lookup y.1 = some c) :
    ∃ cl, closureFor scope env = pure cl ∧ (∀ y c, cl.lookup y = some c → env.cells.lookup y = some c) ∧ ∀ y, (y, NameKind.free) ∈ scope.names → cl.lookup y = env.cells.lookup y := by
  have go : ∀ (names : List (Str × NameKind)) (cs : List (Str × Addr)), (∀ y ∈ names, y.2 = .free → ∃ c, env.cells.lookup y.1 = some c) → (∀ y c, cs.lookup y = some c → env.cells.lookup y = some c) →
      ∃ cl, (forIn (m := Sem) names cs fun (x : Str × NameKind) r => if (x.2 == NameKind.free) = true then (do let c ← cellOf env x.1; pure (ForInStep.yield ((x.1, c) :: r))) else pure (ForInStep.yield r)) = pure cl ∧
        (∀ y c, cl.lookup y = some c → env.cells.lookup y = some c) ∧ (∀ y c, cs.lookup y = some c → (cl.lookup y).isSome = true) ∧ ∀ y, (y, NameKind.free) ∈ names → (cl.lookup y).isSome = true := by
    intro names
    induction names with
    | nil => intro cs _ hc; exact ⟨cs, rfl, hc, fun y c e => by rw [e]; rfl, fun y z => nomatch z⟩
    | cons p r ih =>
      intro cs hn hc
      obtain ⟨n, k⟩ := p
      rw [List.forIn_cons]
      by_cases hk : k = .free
      · subst hk
        obtain ⟨c, e⟩ := hn (n, .free) List.mem_cons_self rfl
        have e : env.cells.lookup n = some c := e
        have hc' : ∀ y d, ((n, c) :: cs).lookup y = some d → env.cells.lookup y = some d := fun y d z => by
          rw [List.lookup_cons] at z
          cases hy : y == n with
          | true => rw [hy] at z; cases z; rw [beq_iff_eq.mp hy]; exact e
          | false => rw [hy] at z; exact hc y d z
        obtain ⟨cl, q1, q2, q3, q4⟩ := ih ((n, c) :: cs) (fun y hy => hn y (List.mem_cons_of_mem _ hy)) hc'
        refine ⟨cl, ?_, q2, fun y d z => ?_, fun y hy => ?_⟩
        · show ((do let c ← cellOf env n; pure (ForInStep.yield ((n, c) :: cs)) : Sem (ForInStep (List (Str × Addr)))) >>= _) = _
          unfold cellOf
          rw [e]
          exact q1
        · cases hy : y == n with
          | true => exact q3 y c (by rw [List.lookup_cons, hy])
          | false => exact q3 y d (by rw [List.lookup_cons, hy]; exact z)
        · rcases List.mem_cons.mp hy with z | z
          · cases z; exact q3 n c (by rw [List.lookup_cons]; simp)
          · exact q4 y z
      · have hb : (k == NameKind.free) = false := by simpa using hk
        obtain ⟨cl, q1, q2, q3, q4⟩ := ih cs (fun y hy => hn y (List.mem_cons_of_mem _ hy)) hc
        refine ⟨cl, ?_, q2, q3, fun y hy => ?_⟩
        · simp only [hb, Bool.false_eq_true, if_false]
          exact q1
        · rcases List.mem_cons.mp hy with z | z
          · cases z; exact absurd rfl hk
          · exact q4 y z
  obtain ⟨cl, q1, q2, _, q4⟩ := go scope.names [] h (fun y c e => nomatch e)
  refine ⟨cl, ?_, q2, fun y hy => ?_⟩
  · refine Eq.trans (b := ((forIn (m := Sem) scope.names [] fun (x : Str × NameKind) r => if (x.2 == NameKind.free) = true then (do let c ← cellOf env x.1; pure (ForInStep.yield ((x.1, c) :: r))) else pure (ForInStep.yield r)) >>= fun s => pure s)) rfl ?_
    rw [q1]
    rfl
  · obtain ⟨c, e⟩ := Option.isSome_iff_exists.mp (q4 y hy)
    rw [e, q2 y c e]

theorem relabel_free {env : Env} : ∀ {names : List (Str × NameKind)} {x : Str}, names.lookup x = some .free →
    (names.map fun (n, k) => if (k == NameKind.free && env.scope.kind == .function && env.kindOf n == some .cell) then (n, NameKind.cell) else (n, k)).lookup x = some .cell ∨
    (names.map fun (n, k) => if (k == NameKind.free && env.scope.kind == .function && env.kindOf n == some .cell) then (n, NameKind.cell) else (n, k)).lookup x = some .free
  | [], _, h => by simp at h
  | (n, k) :: r, x, h => by
    have ih := @relabel_free env r x
    show List.lookup x ((if (k == NameKind.free && env.scope.kind == .function && env.kindOf n == some .cell) = true then (n, NameKind.cell) else (n, k)) :: _) = _ ∨ List.lookup x ((if (k == NameKind.free && env.scope.kind == .function && env.kindOf n == some .cell) = true then (n, NameKind.cell) else (n, k)) :: _) = _
    cases hx : x == n with
    | true =>
      simp only [List.lookup_cons, hx] at h
      cases h
      by_cases hc : (NameKind.free == NameKind.free && env.scope.kind == .function && env.kindOf n == some .cell) = true
      · rw [if_pos hc]; left; simp only [List.lookup_cons, hx]
      · rw [if_neg hc]; right; simp only [List.lookup_cons, hx]
    | false =>
      simp only [List.lookup_cons, hx] at h
      by_cases hc : (k == NameKind.free && env.scope.kind == .function && env.kindOf n == some .cell) = true
      · rw [if_pos hc]; simp only [List.lookup_cons, hx]; exact ih h
      · rw [if_neg hc]; simp only [List.lookup_cons, hx]; exact ih h

theorem relabel_from {env : Env} : ∀ {names : List (Str × NameKind)} {x : Str} {q : NameKind}, (∀ y ∈ names, y.2 ≠ .cell) → (names.map fun (n, k) => if (k == NameKind.free && env.scope.kind == .function && env.kindOf n == some .cell) then (n, NameKind.cell) else (n, k)).lookup x = some q →
    (q = .cell ∨ q = .free) → (x, NameKind.free) ∈ names
  | [], _, _, _, h, _ => by simp at h
  | (n, k) :: r, x, q, hn, h, hq => by
    have ih := @relabel_from env r x q (fun y hy => hn y (List.mem_cons_of_mem _ hy))
    have hk : k ≠ .cell := hn (n, k) List.mem_cons_self
    have h : List.lookup x ((if (k == NameKind.free && env.scope.kind == .function && env.kindOf n == some .cell) = true then (n, NameKind.cell) else (n, k)) :: _) = some q := h
    cases hx : x == n with
    | true =>
      have e := beq_iff_eq.mp hx
      subst e
      by_cases hc : (k == NameKind.free && env.scope.kind == .function && env.kindOf x == some .cell) = true
      · simp only [Bool.and_eq_true, beq_iff_eq] at hc
        rw [hc.1.1]; exact List.mem_cons_self
      · rw [if_neg hc] at h
        simp only [List.lookup_cons, hx] at h
        cases h
        rcases hq with z | z
        · exact absurd z hk
        · rw [z]; exact List.mem_cons_self
    | false =>
      refine List.mem_cons_of_mem _ (ih ?_ hq)
      by_cases hc : (k == NameKind.free && env.scope.kind == .function && env.kindOf n == some .cell) = true
      · rw [if_pos hc] at h; simp only [List.lookup_cons, hx] at h; exact h
      · rw [if_neg hc] at h; simp only [List.lookup_cons, hx] at h; exact h

def blkCx (X : Cx) (scope : Scope) (cl : List (Str × Addr)) (C : Addr) (N : List Str) (s : Shared) (H : Hp) (fp : List Addr) : Cx where
  prog := X.prog
  w := X.w
  K := X.K
  mg := X.mg
  base := X.base
  A := X.A
  N := N
  s₀ := s
  H₀ := H
  env := compEnvC scope cl C X.env
  outer := X.stack
  stack := X.stack
  ex := fp
  fn := fun _ => false
  calm := X.calm
  pn := []
  xe := fun _ _ => False

section
variable {prog : Program} {w : World} {A : Around} {E : Value → Shared → Prop} {R : Result → Shared → Prop} {s : Shared}
theorem compLoopX {elt target iter : Expr} {ifs : List Expr} {scope : Scope} {pos : Pos} {it acc : Value} {env : Env} (I : Nat → Shared → Prop)
    (turn : ∀ n s, I n s → wpAny (model prog w) A (pyNext it) (fun r s₁ => match r with
      | none => R (.ok .next) s₁
      | some v => wpAny (model prog w) A (letOwnedTupleGo target it v) (fun _ s₁' => wpAny (model prog w) A (assign target env v) (fun _ s₂ =>
          wpAny (model prog w) A (forIn ifs true fun c r => if r = true then do let ok ← isTrue c env (eval c env); pure (ForInStep.yield ok) else pure (ForInStep.yield r)) (fun ok s₃ =>
            if ok = true then wpAny (model prog w) A (eval elt env) (fun x s₄ =>
              wpAny (model prog w) A (call (.builtin "list.append") [acc, x]) (fun _ s₅ => ∃ m, m < n ∧ I m s₅) (fun _ _ => False) s₄) (fun _ _ => False) s₃
            else ∃ m, m < n ∧ I m s₃) (fun _ _ => False) s₂) (fun _ _ => False) s₁') (fun _ _ => False) s₁) (fun _ _ => False) s)
    (n : Nat) (h : I n s) :
    codeAny (model prog w) A (.compLoop (.ListComp elt [⟨target, iter, ifs, 0⟩] scope pos) 0 it acc env) R s := by
  refine codeAny_loop rfl I (fun n s hI => ?_) n h
  show wpAny _ A ((compTurn (.ListComp elt [⟨target, iter, ifs, 0⟩] scope pos) 0 it acc env).onRaise (fun x => do noteFrame x env; theTreesLotGoes x)) _ _ s
  refine wpAny_noted ?_
  rw [compTurn_list]
  refine wpAny_bind (wpAny_standAt (wpAny_bind (wpAny_mono (turn n s hI) (fun r s₁ h₁ => ?_) fun _ _ h' => h'.elim)))
  cases r with
  | none => exact wpAny_pure h₁
  | some v =>
    refine wpAny_bind (wpAny_mono h₁ (fun _ s₁' h₁' => ?_) fun _ _ h' => h'.elim)
    refine wpAny_bind (wpAny_mono h₁' (fun _ s₂ h₂ => wpAny_bind (wpAny_mono h₂ (fun ok s₃ h₃ => ?_) fun _ _ h' => h'.elim)) fun _ _ h' => h'.elim)
    cases ok with
    | false => exact wpAny_pure ⟨rfl, h₃⟩
    | true =>
      exact wpAny_bind (wpAny_bind (wpAny_mono h₃ (fun x s₄ h₄ => wpAny_bind (wpAny_mono h₄ (fun _ s₅ h₅ => wpAny_pure (wpAny_pure ⟨rfl, h₅⟩)) fun _ _ h' => h'.elim)) fun _ _ h' => h'.elim))
end

def PIf (X : Cx) (ifs : List Expr) (t : TT) : Prop := ∀ (pins : List (Addr × Obj)) (s : Shared) (σ : L2.St) (H : Hp) (Q : Bool → Hp → Prop), Inv X pins σ H s → t σ H Q →
  wpAny (model X.prog X.w) X.A (forIn ifs true fun c r => if r = true then do let ok ← isTrue c X.env (eval c X.env); pure (ForInStep.yield ok) else pure (ForInStep.yield r)) (TP X pins σ Q) X.xe s
def tAll : TT := fun _ H Q => Q true H
theorem pif_nil {X : Cx} : PIf X [] tAll := fun _ _ _ H _ I h => wpAny_tests_nil ⟨H, I, h⟩
theorem pif_one {X : Cx} {c : Expr} {t : TT} (h : PT X c t) : PIf X [c] t := fun pins s σ H Q I q => wpAny_tests_one (h pins s σ H Q I q)

def fvals (ixs : List Nat) (σ : L2.St) : L2.St := ixs.map fun j => (σ[j]?).join
def CompW (J : It) (fv : L2.St) (tif : TT) (te : TE) (Q : List V → Hp → Prop) (H1 : Hp) : Prop := ∃ W : Nat → Nat → List V → Hp → Prop, (∃ m, W 0 m [] H1) ∧ ∀ i m acc H, W i m acc H →
  (J.stop i H ∧ acc.length ≤ sizeLine ∧ Q acc H) ∨ (J.go i H ∧ acc.length < sizeLine ∧ ∀ x H', J.yld i H x H' → tif (some x :: fv) H' fun b H2 => if b = true then te (some x :: fv) H2 fun v H3 => ∃ m', m' < m ∧ W (i + 1) m' (acc ++ [v]) H3 else ∃ m', m' < m ∧ W (i + 1) m' acc H2)
def tComp (wi : TI) (ixs : List Nat) (tif : TT) (te : TE) : TE := fun σ H Q => wi σ H fun J H1 => CompW J (fvals ixs σ) tif te (fun acc H2 => ∀ D, H2 D = none → Q (.ref D) (upd H2 D (.lst acc))) H1

section
variable {X : Cx} {pins : List (Addr × Obj)} {σ : L2.St} {H : Hp} {s : Shared}
theorem loose_ge (I : Inv X pins σ H s) {a : Addr} (h : s.heap.objs.size ≤ a) {H' : Hp} (hn : H' a = none) : Loose X pins H' a where
  new := Heap.get?_none_of_le (Nat.le_trans I.sz h)
  free := hn
  loc := Nat.ne_of_gt (Nat.lt_of_lt_of_le I.lt h)
  cell := fun x c e z => by
    obtain ⟨v, q⟩ := I.cell x c e
    exact absurd (Nat.lt_of_lt_of_le q.lt (by rw [z]; exact h)) (Nat.lt_irrefl _)
  pin := fun p hp z => absurd (Nat.lt_of_lt_of_le (Heap.lt_size (I.pin p hp).1) (by rw [z]; exact h)) (Nat.lt_irrefl _)
theorem loose_turn {h' : Heap} {it : Addr} {t' : Nat} (I : Inv X pins σ H s) (l : Loose X pins H it) (hs : X.s₀.heap.objs.size ≤ it) (k : ∀ b o, b ≠ it → s.heap.get? b = some o → h'.get? b = some o) : Inv X pins σ H { s with heap := h', toks := t' } :=
  I.turned (it := it) k l.free l.loc (.inr hs) l.cell l.pin
end

section
variable {X : Cx} {pins : List (Addr × Obj)} {σ : L2.St} {scope : Scope} {x : Str} {px pos : Pos} {fv : List Str} {ixs : List Nat} {elt iter : Expr} {ifs : List Expr} {tif : TT} {te : TE} {cl : List (Str × Addr)}

theorem blk_start {H2 : Hp} {s2 : Shared} {fp : List Addr} {h1 : Heap} {tk : Nat} {D C : Addr} {m : Str → Option Value} {dobj : Obj} (ok : CompOk scope x fv X.env.scope) (hix : ixs.map (fun k => X.N[k]?) = fv.map some)
    (hcl1 : ∀ y c, cl.lookup y = some c → X.env.cells.lookup y = some c) (hcl2 : ∀ y, (y, NameKind.free) ∈ scope.names → cl.lookup y = X.env.cells.lookup y)
    (I2 : Inv X pins σ H2 s2) (f2 : ∀ b ∈ fp, FpOk X pins H2 b) (fo : ∀ b ∈ fp, ∃ o, s2.heap.get? b = some o) (hD : s2.heap.objs.size ≤ D) (hC : s2.heap.objs.size ≤ C) (hDC : D ≠ C)
    (k1 : ∀ b o, s2.heap.get? b = some o → h1.get? b = some o) (hd : h1.get? D = some dobj) (hdd : ∀ v, dobj.data ≠ .cell v) (hm : h1.Ns C m) :
    Inv (blkCx X scope cl C (x :: fv) s2 H2 fp) [(D, dobj)] (none :: fvals ixs σ) H2 { s2 with heap := h1, toks := tk } := by
  have o := I2.ok
  have fresh : ∀ a, s2.heap.objs.size ≤ a → H2 a = none := fun a ha => I2.hok.fresh ha
  have lenf : fv.length = ixs.length := by have := congrArg List.length hix; simpa using this.symm
  refine ⟨⟨o.mod, ok.kind, o.glob, o.blt, hC, fun y z c e1 e2 => o.inj y z c (hcl1 y c e1) (hcl1 z c e2), fun y hy => ?_, fun y c h => (nomatch (show false = true from h)), o.hd, o.frames, .inl rfl, fun b hb => ?_, I2.bs, Nat.le_trans o.bsz I2.sz, fun b ob e hb => ?_, fun b hb hs => ?_, I2.stack, I2.stkFree⟩,
    rfl, I2.bare, Un.kept k1, ⟨m, hm, fun i y v e1 e2 e3 => ?_⟩, fun y c e => ?_, fresh C hC, fun y c e => I2.freeC y c (hcl1 y c e), fun p hp => ?_, I2.hok.kept k1, ?_⟩
  · have hy' : (relabel scope X.env).names.lookup y = some .cell ∨ (relabel scope X.env).names.lookup y = some .free := hy
    have hmem : (y, NameKind.free) ∈ scope.names := by
      rcases hy' with z | z
      · exact relabel_from ok.nocell z (.inl rfl)
      · exact relabel_from ok.nocell z (.inr rfl)
    obtain ⟨c, e⟩ := o.has y (ok.free _ hmem rfl)
    exact ⟨c, by rw [show (blkCx X scope cl C (x :: fv) s2 H2 fp).env.cells = cl from rfl, hcl2 y hmem]; exact e⟩
  · obtain ⟨ob, e⟩ := fo b hb
    exact ⟨Nat.ne_of_lt (Nat.lt_of_lt_of_le (Heap.lt_size e) hC), fun y c z => (f2 b hb).2.2.2.2.1 y c (hcl1 y c z)⟩
  · rcases (f2 b hb).2.2.2.1 with z | z
    · exact o.noex b ob e z
    · exact absurd (Nat.lt_of_lt_of_le (Heap.lt_size e) (Nat.le_trans o.bsz z)) (Nat.lt_irrefl _)
  · exact (List.mem_cons.mp (I2.stkSub b hs)).elim (f2 b hb).2.1 (f2 b hb).2.2.1
  · cases i with
    | zero => cases e2
    | succ i =>
      have e1' : fv[i]? = some y := by simpa [blkCx] using e1
      have e2' : (fvals ixs σ)[i]? = some (some v) := by simpa using e2
      have hi : i < ixs.length := by rw [← lenf]; exact (List.getElem?_eq_some_iff.mp e1').1
      have hk : X.N[ixs[i]]? = some y := by
        have := congrArg (fun l => l[i]?) hix
        simp only [List.getElem?_map] at this
        rw [e1', List.getElem?_eq_getElem hi] at this
        simpa using this
      have hv : σ[ixs[i]]? = some (some v) := by
        unfold fvals at e2'
        rw [List.getElem?_map, List.getElem?_eq_getElem hi] at e2'
        simp only [Option.map_some, Option.some.injEq] at e2'
        cases q : σ[ixs[i]]? with
        | none => rw [q] at e2'; cases e2'
        | some z => rw [q] at e2'; cases z with
          | none => cases e2'
          | some z' => cases e2'; rfl
      obtain ⟨hmem, hfr⟩ := ok.fv y (List.mem_of_getElem? e1')
      have hXk := ok.free _ hmem rfl
      obtain ⟨m0, hn0, hl0⟩ := I2.loc
      obtain ⟨u, r, l⟩ := hl0 _ y v hk hv (by rcases hXk with z | z; exact .inr (.inl z); exact .inr (.inr z))
      refine ⟨u, r, ?_⟩
      rcases l with ⟨k, _⟩ | ⟨_, c, e, ⟨oc, hoc, hocd⟩⟩
      · have k' : X.env.scope.names.lookup y = some .local := k
        rcases hXk with z | z <;> (rw [show X.env.scope.names.lookup y = _ from z] at k'; cases k')
      · exact .inr ⟨relabel_free hfr, c, by rw [show (blkCx X scope cl C (x :: fv) s2 H2 fp).env.cells = cl from rfl, hcl2 y hmem]; exact e, ⟨oc, k1 _ _ hoc, hocd⟩⟩
  · obtain ⟨v, oc, hoc, hocd⟩ := I2.cell y c (hcl1 y c e)
    exact ⟨v, oc, k1 _ _ hoc, hocd⟩
  · have e : p = (D, dobj) := by
      have hp' : p ∈ ([] : List (Addr × Obj)) ++ [(D, dobj)] := hp
      simpa using hp'
    subst e
    refine ⟨hd, fresh D hD, hDC, fun z => ?_, hdd⟩
    obtain ⟨_, ob, ho, _⟩ := I2.stack.mem z
    exact absurd (Nat.lt_of_lt_of_le (Heap.lt_size ho) hD) (Nat.lt_irrefl _)
  · show (none :: fvals ixs σ).length = (x :: fv).length
    unfold fvals
    simp [lenf]

theorem blk_run {E : Value → Shared → Prop} {H2 : Hp} {s2 : Shared} {it : Addr} {fp : List Addr} {tn : Nat → Heap → Prop} {J : It} {Q : List V → Hp → Prop} {RR : Value → Addr → Result → Shared → Prop}
    (ok : CompOk scope x fv X.env.scope) (hnd : (x :: fv).Nodup) (hix : ixs.map (fun k => X.N[k]?) = fv.map some) (hc : X.calm = true)
    (hcl1 : ∀ y c, cl.lookup y = some c → X.env.cells.lookup y = some c) (hcl2 : ∀ y, (y, NameKind.free) ∈ scope.names → cl.lookup y = X.env.cells.lookup y)
    (hif : ∀ C s H fp, PIf (blkCx X scope cl C (x :: fv) s H fp) ifs tif) (he : ∀ C s H fp, PE (blkCx X scope cl C (x :: fv) s H fp) elt te)
    (I2 : Inv X pins σ H2 s2) (T : Turn X.prog X.w X.K (.Name x px) J fp it tn) (st2 : tn 0 s2.heap) (f2 : ∀ b ∈ fp, FpOk X pins H2 b) (cw : CompW J (fvals ixs σ) tif te Q H2)
    (hRR : ∀ (D C : Addr) (s' : Shared) (m : Str → Option Value) (acc : List V) (H' : Hp), s'.heap.Ns C m → Inv X pins σ (upd H' D (.lst acc)) s' → Loose X pins (upd H' D (.lst acc)) C → X.s₀.heap.objs.size ≤ C → C ≠ D → H' D = none → Q acc H' → RR (.ref D) C (.ok .next) s') :
    wpAny (model X.prog X.w) X.A (newList []) (fun acc s3 => wpAny (model X.prog X.w) X.A (newFunctionEnv scope X.env.globals cl [] X.env.qual none .none (some X.env)) (fun cenv s4 =>
      codeAny (model X.prog X.w) X.A (.compStart (.ListComp elt [⟨.Name x px, iter, ifs, 0⟩] scope pos) 0 (.ref it) acc { cenv with scope := relabel scope X.env }) (RR acc cenv.locals) s4) E s3) E s2 := by
  obtain ⟨W, ⟨m0, w0⟩, turn⟩ := cw
  refine wpAny_newObj_type (wpAny_newFunctionEnv ok.nocell (by intro y hy; simp at hy) (fun h1 hns1 hsb1 => ?_) ok.kind)
  dsimp only at hns1 hsb1 ⊢
  generalize hH2 : s2.heap.push { cls := .type "list", dict := none, data := .seq ([] : List Value).toArray } = G at hns1 hsb1 ⊢
  have hC : G.objs.size = s2.heap.objs.size + 1 := by rw [← hH2, Heap.size_push]
  have hDC : s2.heap.objs.size ≠ G.objs.size := by rw [hC]; exact Nat.ne_of_lt (Nat.lt_succ_self _)
  have hCle : s2.heap.objs.size ≤ G.objs.size := by rw [hC]; exact Nat.le_succ _
  have old : ∀ b o, s2.heap.get? b = some o → h1.get? b = some o := fun b o e =>
    hsb1.extBut b o (by rw [hC]; exact Nat.ne_of_lt (Nat.lt_succ_of_lt (Heap.lt_size e))) (Heap.get?_push_of_some _ (hH2 ▸ Heap.get?_push_of_some _ e))
  have hacc : h1.get? s2.heap.objs.size = some { cls := .type "list", dict := none, data := .seq ([] : List Value).toArray } := hsb1.extBut _ _ hDC (Heap.get?_push_of_some _ (hH2 ▸ Heap.get?_push_size _ rfl))
  have st1 : tn 0 h1 := T.keep _ _ _ st2 fun b _ o e => old b o e
  have fo : ∀ b ∈ fp, ∃ o, s2.heap.get? b = some o := fun b hb => let ⟨o, e, _⟩ := T.obj _ _ st2 b hb; ⟨o, e⟩
  generalize hCg : G.objs.size = C at *
  generalize hDg : s2.heap.objs.size = D at *
  have hDle : s2.heap.objs.size ≤ D := by rw [hDg]; exact Nat.le_refl _
  have hCle' : s2.heap.objs.size ≤ C := by rw [hDg]; exact hCle
  -- what stays true of the iterator's objects
  have fpB : ∀ {H' : Hp} {o : Obj}, (∀ b ∈ fp, H' b = none) → ∀ b ∈ fp, FpOk (blkCx X scope cl C (x :: fv) s2 H2 fp) [(D, o)] H' b := fun {H' o} hn b hb => by
    obtain ⟨ob, e⟩ := fo b hb
    refine ⟨hn b hb, Nat.ne_of_lt (Nat.lt_of_lt_of_le (Heap.lt_size e) hCle'), fun z => (List.mem_cons.mp (I2.stkSub b z)).elim (f2 b hb).2.1 (f2 b hb).2.2.1, .inl hb, fun y c z => (f2 b hb).2.2.2.2.1 y c (hcl1 y c z), fun p hp => ?_⟩
    have ep : p = (D, o) := by
      have hp' : p ∈ ([] : List (Addr × Obj)) ++ [(D, o)] := hp
      simpa using hp'
    subst ep
    exact Nat.ne_of_gt (Nat.lt_of_lt_of_le (Heap.lt_size e) hDle)
  have loop : ∀ s3 : Shared, s3 = { s2 with heap := h1, toks := s2.toks + ([] : List (Str × Value)).length } →
      codeAny (model X.prog X.w) X.A (.compLoop (.ListComp elt [⟨.Name x px, iter, ifs, 0⟩] scope pos) 0 (.ref it) (.ref D) (compEnvC scope cl C X.env)) (RR (.ref D) C) s3 := by
    rintro s3 rfl
    refine compLoopX (fun n s => ∃ i acc its cnt v0 H, Inv (blkCx X scope cl C (x :: fv) s2 H2 fp) [(D, { cls := .type "list", data := .seq (List.toArray its) cnt })] (v0 :: fvals ixs σ) H s ∧ Vals acc its ∧ tn i s.heap ∧ (∀ b ∈ fp, H b = none) ∧ W i n acc H) ?_ m0
      ⟨0, [], [], 0, none, H2, blk_start ok hix hcl1 hcl2 I2 f2 fo hDle hCle' hDC old hacc (fun v z => nomatch z) hns1, .nil, st1, fun b hb => (f2 b hb).1, w0⟩
    rintro n s3 ⟨i, acc, its, cnt, v0, H3, I3, rv, st3, fr3, w3⟩
    rcases turn i n acc H3 w3 with ⟨stop, hz, qn⟩ | ⟨go, hz, step⟩
    · refine thn (T.done (blkCx X scope cl C (x :: fv) s2 H2 fp) rfl rfl rfl hc i _ s3 _ H3 _ I3 (fpB fr3) st3 stop) fun r s4 ⟨hr, I4⟩ => ?_
      subst hr
      obtain ⟨pe, pn, pL, pF, _⟩ := I4.pin (D, { cls := .type "list", data := .seq (List.toArray its) cnt }) (List.mem_append_right _ (List.mem_singleton.mpr rfl))
      have I5 : Inv X pins σ H3 s4 := I2.call' (ch := fp) I4.os I4.base I4.hok I4.bare fun b hb => ⟨(f2 b hb).2.2.2.1, (f2 b hb).2.1, (f2 b hb).2.2.2.2.1, (f2 b hb).2.2.2.2.2⟩
      have lD : Loose X pins H3 D := loose_ge I2 hDle pn
      have I6 := track (o := .lst acc) I5 lD ⟨hz, its, cnt, rv, pe⟩
      obtain ⟨m4, hn4, _⟩ := I4.loc
      exact hRR D C s4 m4 acc H3 hn4 I6 (loose_ge I2 hCle' (by rw [upd_ne (Ne.symm hDC)]; exact I4.free)) (Nat.le_trans I2.sz hCle') (Ne.symm hDC) pn qn
    · refine thn (T.item (blkCx X scope cl C (x :: fv) s2 H2 fp) rfl rfl rfl hc i _ s3 _ H3 _ I3 (fpB fr3) st3 go) fun r s4 ⟨u, hr, h4⟩ => ?_
      subst hr
      refine thn h4 fun _ s5 ⟨y, H5, I5, r5, y5, st5, fr5⟩ => ?_
      have I5' := I5.pinned (fpB fr5) (T.obj _ _ st5)
      refine wpAny_assign_Name (store_ok (i := 0) I5' hnd rfl (.inl (lookup_relabel_local ok.var)) r5 (fun s6 I6 => ?_) (.inr (lookup_relabel_local ok.var)))
      have again : ∀ {σ7 : L2.St} {H7 : Hp} {s7 : Shared}, Inv (blkCx X scope cl C (x :: fv) s2 H2 fp) ([(D, { cls := .type "list", data := .seq (List.toArray its) cnt })] ++ pinsAt fp s5.heap) σ7 H7 s7 → tn (i + 1) s7.heap ∧ ∀ b ∈ fp, H7 b = none := fun {σ7 H7 s7} I7 => by
        refine ⟨T.keep _ _ _ st5 fun b hb o e => (I7.pin (b, o) (List.mem_append_right _ (List.mem_append_right _ (mem_pinsAt hb e)))).1, fun b hb => ?_⟩
        obtain ⟨o, e, d⟩ := T.obj _ _ st5 b hb
        exact (I7.pin (b, o) (List.mem_append_right _ (List.mem_append_right _ (mem_pinsAt hb e)))).2.1
      refine thn (hif _ _ _ _ _ s6 _ H5 _ I6 (step y H5 y5)) fun okb s7 ⟨H7, I7, q7⟩ => ?_
      cases okb with
      | false =>
        rw [if_neg Bool.false_ne_true] at q7 ⊢
        obtain ⟨m', hm, w7⟩ := q7
        obtain ⟨st7, fr7⟩ := again I7
        exact ⟨m', hm, i + 1, acc, its, cnt, some y, H7, I7.unpinned, rv, st7, fr7, w7⟩
      | true =>
        rw [if_pos rfl] at q7 ⊢
        refine thn (he _ _ _ _ _ s7 _ H7 _ I7 q7) fun yv s8 ⟨v, H8, I8, r8, m', hm, w8⟩ => ?_
        obtain ⟨st8, fr8⟩ := again I8
        have I9 := I8.unpinned
        obtain ⟨pe, pn, pL, pF, _⟩ := I9.pin (D, { cls := .type "list", data := .seq (List.toArray its) cnt }) (List.mem_append_right _ (List.mem_singleton.mpr rfl))
        have lens : its.length = acc.length := rv.length.symm
        refine wpAny_list_append_plain ⟨cnt, pe⟩ (fun h9 hl9 hs9 => ?_) (by simp only [List.size_toArray]; omega)
        obtain ⟨cnt', pe'⟩ := hl9
        have I10 : Inv (blkCx X scope cl C (x :: fv) s2 H2 fp) [] (some y :: fvals ixs σ) H8 s8 := I9.pins_of fun p hp => nomatch hp
        have I11 : Inv (blkCx X scope cl C (x :: fv) s2 H2 fp) [] (some y :: fvals ixs σ) H8 { s8 with heap := h9 } := I10.turned (t' := s8.toks) (it := D) (fun b o hb e => (hs9.2 b hb).trans e) pn pL (.inr hDle)
          (fun z c e q => by
            obtain ⟨v', oc, hoc, _⟩ := I2.cell z c (hcl1 z c e)
            exact absurd (Nat.lt_of_lt_of_le (Heap.lt_size hoc) (by rw [q]; exact hDle)) (Nat.lt_irrefl _)) (fun p hp => nomatch hp)
        refine ⟨m', hm, i + 1, acc ++ [v], its ++ [yv], cnt', some y, H8, I11.pins_of fun p hp => ?_, rv.append (.cons r8 .nil), T.keep _ _ _ st8 fun b hb o e => (hs9.2 b ?_).trans e, fr8, w8⟩
        · have ep : p = (D, { cls := .type "list", data := .seq (List.toArray (its ++ [yv])) cnt' }) := by simpa using hp
          subst ep
          exact ⟨by simpa using pe', pn, pL, pF, fun v z => nomatch z⟩
        · obtain ⟨ob, e'⟩ := fo b hb
          exact Nat.ne_of_lt (Nat.lt_of_lt_of_le (Heap.lt_size e') hDle)
  exact codeAny_compStart_list (loop _ rfl) (T.self _ 0 _ _ _ st1 (loop _ rfl))

theorem pe_comp {wi : TI} (hck : compOk scope x fv X.env.scope = true) (hnd : (x :: fv).Nodup) (hix : ixs.map (fun k => X.N[k]?) = fv.map some) (hc : X.calm = true) (hi : PI X (.Name x px) iter wi)
    (hif : ∀ cl C s H fp, PIf (blkCx X scope cl C (x :: fv) s H fp) ifs tif) (he : ∀ cl C s H fp, PE (blkCx X scope cl C (x :: fv) s H fp) elt te) (hs : ∀ x, foldedSetIterable iter X.env x = pure x := by intro _; rfl) :
    PE X (.ListComp elt [⟨.Name x px, iter, ifs, 0⟩] scope pos) (tComp wi ixs tif te) := by
  intro pins s σ H Q I h
  have ok := compOk_of hck
  obtain ⟨cl, hclos, hcl1, hcl2⟩ := closure_of (scope := scope) (env := X.env) fun y hy e => I.ok.has y.1 (ok.free y hy e)
  rw [eval_ListComp]
  refine wpAny_comprehension_free (use := none) rfl hs hclos ok.kind ok.loc (thn (hi pins s σ H _ I h) fun v s1 h1 => thn h1 fun itv s2 h2 => ?_)
  obtain ⟨it, fp, tn, J, H2, e, I2, T, st2, f2, cw⟩ := h2
  subst e
  refine blk_run (Q := fun acc H2 => ∀ D, H2 D = none → Q (.ref D) (upd H2 D (.lst acc))) (RR := fun acc C => compPost (model X.prog X.w) X.A X.xe none (EP X pins σ Q) acc C) ok hnd hix hc hcl1 hcl2 (hif cl) (he cl) I2 T st2 f2 cw ?_
  intro D C s' m acc H' hn I' lC hC hCD hD hQ
  exact ⟨m, hn, fun h' hs' => ⟨.ref D, _, loose_turn (t' := s'.toks) I' lC hC fun b o hb e => (hs'.2 b hb).trans e, rfl, hQ D hD⟩⟩
end

section
variable {X : Cx} {scope : Scope} {x y : Str} {px py pos spos : Pos} {fv : List Str} {ixs : List Nat} {elt iter : Expr} {ifs : List Expr} {tif : TT} {te : TE}
theorem ps_setComp {i : Nat} {wi : TI} (hN : X.N.Nodup) (hiN : X.N[i]? = some y) (hy : X.env.scope.names.lookup y = some .local) (hck : compOk scope x fv X.env.scope = true) (hnd : (x :: fv).Nodup) (hix : ixs.map (fun k => X.N[k]?) = fv.map some) (hc : X.calm = true) (hi : PI X (.Name x px) iter wi)
    (hif : ∀ cl C s H fp, PIf (blkCx X scope cl C (x :: fv) s H fp) ifs tif) (he : ∀ cl C s H fp, PE (blkCx X scope cl C (x :: fv) s H fp) elt te) (hs : ∀ x, foldedSetIterable iter X.env x = pure x := by intro _; rfl)
    (hsw : swapsWith (.ListComp elt [⟨.Name x px, iter, ifs, 0⟩] scope pos) (some (.Name y py)) spos.line X.env = pure true := by rfl) :
    PS X (.Assign [.Name y py] (.ListComp elt [⟨.Name x px, iter, ifs, 0⟩] scope pos) spos) (tAsg (tComp wi ixs tif te) (gName i)) := by
  intro pins s σ H D I h
  have ok := compOk_of hck
  obtain ⟨cl, hclos, hcl1, hcl2⟩ := closure_of (scope := scope) (env := X.env) fun y hy e => I.ok.has y.1 (ok.free y hy e)
  rw [exec_Assign_Name_used _ _ _ _ hsw]
  refine wpAny_bind (wpAny_standAt (wpAny_bind ?_))
  show wpAny _ X.A (do let _ ← comprehension (.ListComp elt [⟨.Name x px, iter, ifs, 0⟩] scope pos) scope X.env _ (newList []) false (eval iter X.env) (some (assign (.Name y py) X.env))) _ _ s
  refine wpAny_bind (wpAny_mono (wpAny_comprehension_free (use := some (assign (.Name y py) X.env)) (Q := fun _ s' => SP X pins D .next s') rfl hs hclos ok.kind ok.loc
    (thn (hi pins s σ H _ I h) fun v s1 h1 => thn h1 fun itv s2 h2 => ?_)) (fun _ s' hq => wpAny_pure (wpAny_pure hq)) fun _ _ e => e)
  obtain ⟨it, fp, tn, J, H2, e, I2, T, st2, f2, cw⟩ := h2
  subst e
  refine blk_run (RR := fun acc C => compPost (model X.prog X.w) X.A X.xe (some (assign (.Name y py) X.env)) (fun _ s' => SP X pins D .next s') acc C) ok hnd hix hc hcl1 hcl2 (hif cl) (he cl) I2 T st2 f2 cw ?_
  intro D' C s' m acc H' hn I' lC hC hCD hD hQ
  show wpAny _ X.A (assign (.Name y py) X.env (.ref D')) _ _ s'
  refine wpAny_assign_Name (store_ok2 (v := .ref D') I' hN hiN (.inl hy) rfl (fun s2 I2 hsb => ?_) (.inr hy))
  obtain ⟨a, sb, ha⟩ := hsb
  have haC : C ≠ a := by
    rcases ha with z | z
    · rw [z]; exact lC.loc
    · exact Ne.symm (lC.cell y a z)
  exact ⟨m, hn.sameBut sb haC, fun h' hs' => ⟨_, _, loose_turn (t' := s2.toks) I2 lC hC fun b o hb e => (hs'.2 b hb).trans e, hQ D' hD⟩⟩
end

theorem comp_range {lo : Int} {n : Nat} {fv : L2.St} {tif : TT} {te : TE} {Q : List V → Hp → Prop} {H1 : Hp} (g : Nat → Bool) (fn : Nat → V) (hz : n ≤ sizeLine)
    (hs : ∀ k, k < n → ∀ H, Same H1 H → ∀ (Rt : V → Hp → Prop) (Rf : Hp → Prop), (g k = true → ∀ H3, Same H1 H3 → Rt (fn k) H3) → (g k = false → ∀ H2, Same H1 H2 → Rf H2) → tif (some (.int (lo + k)) :: fv) H fun b H2 => if b = true then te (some (.int (lo + k)) :: fv) H2 Rt else Rf H2)
    (hd : ∀ H, Same H1 H → Q (((List.range n).filter g).map fn) H) : CompW (Itr lo n) fv tif te Q H1 := by
  refine ⟨fun i m acc H => m = n - i ∧ i ≤ n ∧ Same H1 H ∧ acc = ((List.range i).filter g).map fn, ⟨n, by simp, Nat.zero_le _, Same.refl _, by simp⟩, ?_⟩
  rintro i m acc H ⟨rfl, hi, sm, rfl⟩
  have len : (((List.range i).filter g).map fn).length ≤ i := by
    rw [List.length_map]
    exact Nat.le_trans (List.length_filter_le _ _) (by rw [List.length_range]; exact Nat.le_refl _)
  by_cases hlt : i < n
  · refine .inr ⟨hlt, by omega, fun x H' y => ?_⟩
    obtain ⟨e, y⟩ := y
    subst e y
    refine hs i hlt _ sm _ _ (fun hg H3 s3 => ⟨n - (i + 1), by omega, rfl, hlt, s3, ?_⟩) (fun hg H2 s2 => ⟨n - (i + 1), by omega, rfl, hlt, s2, ?_⟩)
    · rw [List.range_succ, List.filter_append, List.map_append]; simp [hg]
    · rw [List.range_succ, List.filter_append, List.map_append]; simp [hg]
  · have e : i = n := by omega
    subst e
    exact .inl ⟨Nat.le_refl _, by omega, hd H sm⟩
end LX

set_option Elab.async false
set_option linter.all false
set_option maxRecDepth 100000
namespace LX
open PySem PySem.Spec PyProof.Rows L2

mutual
inductive RdV (H : Hp) : V → PyData → Prop
  | non : RdV H .non .none
  | bl (b : Bool) : RdV H (.bl b) (.bool b)
  | int (i : Int) : RdV H (.int i) (.int i)
  | str (x : Str) : RdV H (.str x) (.str x)
  | lst {a : Addr} {xs : List V} {ds : List PyData} : H a = some (.lst xs) → RdVs H xs ds → RdV H (.ref a) (.list ds)
  | tup {a : Addr} {xs : List V} {ds : List PyData} : H a = some (.tup xs) → RdVs H xs ds → RdV H (.ref a) (.tuple ds)
inductive RdVs (H : Hp) : List V → List PyData → Prop
  | nil : RdVs H [] []
  | cons {x : V} {d : PyData} {xs : List V} {ds : List PyData} : RdV H x d → RdVs H xs ds → RdVs H (x :: xs) (d :: ds)
end
mutual
theorem RdV.reads {P : Program} {w : World} {H : Hp} {h : Heap} (ok : HOk P w H h) : ∀ {x : V} {d : PyData} {u : Value}, RdV H x d → RelV x u → ∃ as, Reads h u d as
  | _, _, _, .non, r => by cases r; exact ⟨_, .none⟩
  | _, _, _, .bl b, r => by cases r; exact ⟨_, .bool b⟩
  | _, _, _, .int i, r => by obtain ⟨t, rfl⟩ := r; exact ⟨_, .int i t⟩
  | _, _, _, .str x, r => by obtain ⟨t, rfl⟩ := r; exact ⟨_, .str x t⟩
  | _, _, _, .lst (a := a) (xs := xs) e q, r => by
    cases r
    obtain ⟨_, its, n, rv, g⟩ := (show ObjOk P w H h a (.lst xs) from ok a _ e)
    obtain ⟨as, z⟩ := RdVs.reads ok q rv
    exact ⟨_, .list g rfl rfl (by simpa using z)⟩
  | _, _, _, .tup (a := a) (xs := xs) e q, r => by
    cases r
    obtain ⟨_, its, rv, o, g, c, n, d⟩ := (show ObjOk P w H h a (.tup xs) from ok a _ e)
    obtain ⟨as, z⟩ := RdVs.reads ok q rv
    exact ⟨_, .tuple g c d (by simpa using z)⟩
theorem RdVs.reads {P : Program} {w : World} {H : Hp} {h : Heap} (ok : HOk P w H h) : ∀ {xs : List V} {ds : List PyData} {us : List Value}, RdVs H xs ds → Vals xs us → ∃ as, ReadsAll h us ds as
  | _, _, _, .nil, r => by cases r; exact ⟨_, .nil⟩
  | _, _, _, .cons p q, r => by
    cases r with
    | cons r1 r2 =>
      obtain ⟨as, z⟩ := RdV.reads ok p r1
      obtain ⟨bs, z2⟩ := RdVs.reads ok q r2
      exact ⟨_, .cons z z2⟩
end
section
variable {X : Cx}
def rEqD : R2 := fun x y H Q => ∃ d e, RdV H x d ∧ RdV H y e ∧ SeqAt.shaped d = true ∧ SeqAt.shaped e = true ∧ Q (.bl (PyData.eqv d e)) H
def rNeD : R2 := fun x y H Q => ∃ d e, RdV H x d ∧ RdV H y e ∧ SeqAt.shaped d = true ∧ SeqAt.shaped e = true ∧ Q (.bl (!PyData.eqv d e)) H
theorem op_eqD (hu : X.A.units + 64 < cLine) : OpR X (compareOp .Eq) rEqD := by
  intro pins s σ H x y v u Q I rx ry h
  obtain ⟨d, e, r1, r2, s1, s2, q⟩ := h
  obtain ⟨as, z1⟩ := r1.reads I.hok rx
  obtain ⟨bs, z2⟩ := r2.reads I.hok ry
  exact eq_dataH z1 z2 s1 s2 hu ⟨.bl _, H, I, rfl, q⟩
theorem op_neD (hu : X.A.units + 64 < cLine) : OpR X (compareOp .NotEq) rNeD := by
  intro pins s σ H x y v u Q I rx ry h
  obtain ⟨d, e, r1, r2, s1, s2, q⟩ := h
  obtain ⟨as, z1⟩ := r1.reads I.hok rx
  obtain ⟨bs, z2⟩ := r2.reads I.hok ry
  exact ne_dataH z1 z2 s1 s2 hu ⟨.bl _, H, I, rfl, q⟩
end

def cV : V → Value
  | .ty n => .type n
  | .ref a => .ref a
  | _ => .none
section
variable {X : Cx}
end
end LX

set_option Elab.async false
set_option linter.all false
set_option maxRecDepth 100000
namespace LX
open PySem PySem.Spec PyProof.Rows L2

section
variable {X : Cx} {a b c e o : Expr} {ta tb tc te : TE} {pos : Pos}
theorem PE.imp {t t' : TE} (h : PE X e t) (i : ∀ σ H Q, t' σ H Q → t σ H Q) : PE X e t' := fun pins s σ H Q I q => h pins s σ H Q I (i σ H Q q)
theorem OpR.imp {f : Value → Value → Sem Value} {r r' : R2} (h : OpR X f r) (i : ∀ x y H Q, r' x y H Q → r x y H Q) : OpR X f r' := fun pins s σ H x y v u Q I rx ry q => h pins s σ H x y v u Q I rx ry (i x y H Q q)
theorem UnR.imp {f : Value → Sem Value} {r r' : V → Hp → VK → Prop} (h : UnR X f r) (i : ∀ x H Q, r' x H Q → r x H Q) : UnR X f r' := fun pins s σ H x v Q I rx q => h pins s σ H x v Q I rx (i x H Q q)
theorem CallR.imp {f : Value} {r r' : List V → Hp → VK → Prop} (h : CallR X f r) (i : ∀ xs H Q, r' xs H Q → r xs H Q) : CallR X f r' := fun pins s σ H xs us Q I rx q => h pins s σ H xs us Q I rx (i xs H Q q)
theorem IxR.imp {r r' : R2} (h : IxR X r) (i : ∀ x y H Q, r' x y H Q → r x y H Q) : IxR X r' := fun value slice pins s σ H x y v u Q I rx ry q hs => h value slice pins s σ H x y v u Q I rx ry (i x y H Q q) hs

def vU (i : Nat) : TE := fun σ H Q => match σ[i]? with | some (some v) => Q v H | _ => False
theorem pu (i : Nat) {x : Str} {pos : Pos} (hN : X.N[i]? = some x := by rfl) (hv : Vis X.env.scope x := by first | exact Or.inl rfl | exact Or.inr (Or.inl rfl) | exact Or.inr (Or.inr rfl)) (hd : (x == ("__debug__" : Str)) = false := by decide)
    (hcd : (x == ("__classdict__" : Str)) = false := by decide) : PE X (.Name x pos) (vU i) := PE.imp (pe_var hN hv hd hcd) fun σ H Q h => by
  unfold vU at h
  split at h
  · exact ⟨_, ‹_›, h⟩
  · exact h.elim

def rIU (g : Int → Int → V) : R2 := fun x y H Q => match x, y with | .int i, .int j => Q (g i j) H | _, _ => False
theorem rIU_to {g : Int → Int → V} : ∀ x y H Q, rIU g x y H Q → rI0 g x y H Q := fun x y H Q h => by
  cases x <;> cases y <;> first | exact ⟨_, _, rfl, rfl, h⟩ | exact h.elim
def rIC (C : Int → Int → Prop) (g : Int → Int → V) : R2 := fun x y H Q => match x, y with | .int i, .int j => C i j ∧ Q (g i j) H | _, _ => False
theorem rIC_to {C : Int → Int → Prop} {g : Int → Int → V} : ∀ x y H Q, rIC C g x y H Q → rI C g x y H Q := fun x y H Q h => by
  cases x <;> cases y <;> first | exact ⟨_, _, rfl, rfl, h⟩ | exact h.elim
theorem ou_sub : OpR X (binaryOp .Sub) (rIU fun i j => .int (i - j)) := OpR.imp op_sub rIU_to
theorem ou_mod : OpR X (binaryOp .Mod) (rIC (fun _ j => 0 < j) fun i j => .int (i % j)) := OpR.imp op_mod rIC_to
theorem ou_fdiv : OpR X (binaryOp .FloorDiv) (rIC CDiv fun i j => .int (i / j)) := OpR.imp op_fdiv rIC_to
theorem ou_lt : OpR X (compareOp .Lt) (rIU fun i j => .bl (decide (i < j))) := OpR.imp op_lt rIU_to
theorem ou_le : OpR X (compareOp .LtE) (rIU fun i j => .bl (decide (i ≤ j))) := OpR.imp op_le rIU_to
theorem ou_gt : OpR X (compareOp .Gt) (rIU fun i j => .bl (decide (j < i))) := OpR.imp op_gt rIU_to
theorem ou_ge : OpR X (compareOp .GtE) (rIU fun i j => .bl (decide (j ≤ i))) := OpR.imp op_ge rIU_to
def rAddU : R2 := fun x y H Q => match x, y with
  | .int i, .int j => Q (.int (i + j)) H
  | .str i, .str j => i.length + j.length ≤ sizeLine ∧ Q (.str (i ++ j)) H
  | .ref p, .ref q => (match H p, H q with | some (.lst xs), some (.lst zs) => xs.length + zs.length ≤ sizeLine ∧ ∀ l, H l = none → Q (.ref l) (upd H l (.lst (xs ++ zs))) | _, _ => False)
  | _, _ => False
theorem ou_add : OpR X (binaryOp .Add) rAddU := OpR.imp (OpR.or op_add (OpR.or op_add_str op_cat)) fun x y H Q h => by
  cases x <;> cases y <;> first
    | exact .inl ⟨_, _, rfl, rfl, h⟩
    | exact .inr (.inl ⟨_, _, rfl, rfl, h.1, h.2⟩)
    | exact h.elim
    | (unfold rAddU at h; dsimp only at h
       split at h
       · exact .inr (.inr ⟨_, _, _, _, rfl, rfl, ‹_›, ‹_›, h.1, h.2⟩)
       · exact h.elim)
def rMulU : R2 := fun x y H Q => match x, y with
  | .int i, .int j => CMul i j ∧ Q (.int (i * j)) H
  | .ref p, .int k => (match H p with | some (.lst xs) => -(2 ^ 63) ≤ k ∧ k < 2 ^ 63 ∧ xs.length * k.toNat ≤ sizeLine ∧ ∀ l, H l = none → Q (.ref l) (upd H l (.lst (List.replicate k.toNat xs).flatten)) | _ => False)
  | _, _ => False
theorem ou_mul : OpR X (binaryOp .Mult) rMulU := OpR.imp (OpR.or op_mul op_rep) fun x y H Q h => by
  cases x <;> cases y <;> first
    | exact .inl ⟨_, _, rfl, rfl, h.1, h.2⟩
    | exact h.elim
    | (unfold rMulU at h; dsimp only at h
       split at h
       · exact .inr ⟨_, _, _, rfl, rfl, ‹_›, h.1, h.2.1, h.2.2.1, h.2.2.2⟩
       · exact h.elim)
def rNegU : V → Hp → VK → Prop := fun x H Q => match x with | .int i => Q (.int (-i)) H | _ => False
theorem uu_neg : UnR X (unaryOp .USub) rNegU := UnR.imp un_neg fun x H Q h => by cases x <;> first | exact ⟨_, rfl, h⟩ | exact h.elim
def rEqU : R2 := fun x y H Q => if scal x y = true then Q (.bl (decide (x = y))) H else rEqD x y H Q
def rNeU : R2 := fun x y H Q => if scal x y = true then Q (.bl (!decide (x = y))) H else rNeD x y H Q
theorem ou_eq (hu : X.A.units + 64 < cLine) : OpR X (compareOp .Eq) rEqU := OpR.imp (OpR.or op_eq (op_eqD hu)) fun x y H Q h => by
  unfold rEqU at h
  split at h
  · exact .inl ⟨‹_›, h⟩
  · exact .inr h
theorem ou_ne (hu : X.A.units + 64 < cLine) : OpR X (compareOp .NotEq) rNeU := OpR.imp (OpR.or op_ne (op_neD hu)) fun x y H Q h => by
  unfold rNeU at h
  split at h
  · exact .inl ⟨‹_›, h⟩
  · exact .inr h
def rIsNU : R2 := fun x y H Q => match y with | .non => Q (.bl (decide (x = .non))) H | _ => False
def rNotNU : R2 := fun x y H Q => match y with | .non => Q (.bl (!decide (x = .non))) H | _ => False
theorem ou_notN : OpR X (compareOp .IsNot) rNotNU := OpR.imp op_notN fun x y H Q h => by cases y <;> first | exact ⟨rfl, h⟩ | exact h.elim

def bU : V → (Bool → Prop) → Prop := fun x k => match x with | .bl c => k c | _ => False
theorem bU_to {x : V} {k : Bool → Prop} (h : bU x k) : ∃ c, x = .bl c ∧ k c := by cases x <;> first | exact ⟨_, rfl, h⟩ | exact h.elim
def tTestU (t : TE) : TT := fun σ H Q => t σ H fun x H' => bU x fun k => Q k H'
theorem tu_cmp {op : CmpOp} {r : R2} (ho : OpR X (compareOp op) r) (ha : PE X a ta) (hb : PE X b tb) (hm : behindInMarks op b = false) : PT X (.Compare a [op] [b] pos) (tTestU (tOp r ta tb)) := by
  intro pins s σ H Q I h
  refine wpAny_isTrue_Compare1 (thn (ha pins s σ H _ I h) fun v s1 ⟨x, H1, I1, r1, q1⟩ => thn (hb pins s1 σ H1 _ I1 q1) fun u s2 ⟨y, H2, I2, r2, q2⟩ =>
    thn (ho pins s2 σ H2 x y v u _ I2 r1 r2 q2) fun z s3 ⟨t, H3, I3, r3, q3⟩ => ?_) hm
  obtain ⟨k, rfl, q⟩ := bU_to q3
  cases r3
  exact wpAny_truthy_bool ⟨H3, I3, q⟩
theorem tu_val {t : TE} (h : PE X e t) (he : ∀ whole, isTrue e X.env whole = (do let v ← whole; standAt e.pos; holding [v] (truthy v)) := by intro _; rfl) : PT X e (tTestU t) := by
  intro pins s σ H Q I q
  refine isTrue_plain (thn (h pins s σ H _ I q) fun v s1 ⟨x, H1, I1, r1, q1⟩ => ?_) (he _)
  obtain ⟨k, rfl, q⟩ := bU_to q1
  cases r1
  exact wpAny_truthy_bool ⟨H1, I1, q⟩
def tAndU (ta tb : TE) : TE := fun σ H Q => ta σ H fun x H1 => bU x fun c => if c = true then tb σ H1 Q else Q (.bl false) H1
def tOrU (ta tb : TE) : TE := fun σ H Q => ta σ H fun x H1 => bU x fun c => if c = true then Q (.bl true) H1 else tb σ H1 Q
def tNotU (ta : TE) : TE := fun σ H Q => ta σ H fun x H1 => bU x fun c => Q (.bl (!c)) H1
section
variable {rest : List Expr}
theorem eu_and (ha : PE X a ta) (hb : PE X (.BoolOp .And (b :: rest) pos) tb) : PE X (.BoolOp .And (a :: b :: rest) pos) (tAndU ta tb) := by
  intro pins s σ H Q I h
  refine BoolOp_and (thn (ha pins s σ H _ I h) fun v s1 ⟨x, H1, I1, r1, q1⟩ => ?_)
  obtain ⟨c, rfl, q2⟩ := bU_to q1
  cases r1
  refine wpAny_truthy_bool ?_
  cases c with
  | true => exact hb pins s1 σ H1 Q I1 (by simpa using q2)
  | false => exact ⟨.bl false, H1, I1, rfl, by simpa using q2⟩
theorem eu_or (ha : PE X a ta) (hb : PE X (.BoolOp .Or (b :: rest) pos) tb) : PE X (.BoolOp .Or (a :: b :: rest) pos) (tOrU ta tb) := by
  intro pins s σ H Q I h
  refine BoolOp_or (thn (ha pins s σ H _ I h) fun v s1 ⟨x, H1, I1, r1, q1⟩ => ?_)
  obtain ⟨c, rfl, q2⟩ := bU_to q1
  cases r1
  refine wpAny_truthy_bool ?_
  cases c with
  | false => exact hb pins s1 σ H1 Q I1 (by simpa using q2)
  | true => exact ⟨.bl true, H1, I1, rfl, by simpa using q2⟩
theorem eu_not (ha : PE X a ta) : PE X (.UnaryOp .Not a pos) (tNotU ta) := by
  intro pins s σ H Q I h
  refine UnaryOp_ (thn (ha pins s σ H _ I h) fun v s1 ⟨x, H1, I1, r1, q1⟩ => ?_)
  obtain ⟨c, rfl, q1⟩ := bU_to q1
  cases r1
  exact not_of (wpAny_truthy_bool ⟨.bl (!c), H1, I1, rfl, q1⟩)
end

def fldU (K : PySem.W.Frag) (f : Str) : V → Hp → VK → Prop := fun x H Q => match x with
  | .ref a => (match H a with | some (.ins C _ fs) => Cls K C ∧ NoAttr K C f ∧ (match fs.lookup f with | some v => Q v H | none => False) | _ => False)
  | _ => False
def tFldU (K : PySem.W.Frag) (ta : TE) (f : Str) : TE := fun σ H Q => ta σ H fun x H1 => fldU K f x H1 Q
theorem fldU_to {K : PySem.W.Frag} {f : Str} {x : V} {H : Hp} {Q : VK} (h : fldU K f x H Q) : ∃ a C dx fs v, x = .ref a ∧ H a = some (.ins C dx fs) ∧ Cls K C ∧ NoAttr K C f ∧ fs.lookup f = some v ∧ Q v H := by
  unfold fldU at h
  split at h
  · split at h
    · obtain ⟨h1, h2, h3⟩ := h
      split at h3
      · exact ⟨_, _, _, _, _, rfl, ‹_›, h1, h2, ‹_›, h3⟩
      · exact h3.elim
    · exact h.elim
  · exact h.elim
theorem eu_fld {f : Str} (he : PE X e ta) (hb : attributeBase e f X.env (eval e X.env) = eval e X.env := by rfl) : PE X (.Attribute e f pos) (tFldU X.K ta f) := by
  intro pins s σ H Q I h
  refine attr_of hb (thn (he pins s σ H _ I h) fun u s1 ⟨x, H1, I1, rx, z⟩ => ?_)
  obtain ⟨a, C, dx, fs, v, ex, ea, c, n, l, q⟩ := fldU_to z
  subst ex
  obtain rfl : u = Value.ref a := rx
  exact getattr_ok I1 ea c n l fun u' s2 I2 ru => ⟨v, H1, I2, ru, q⟩
def setU (K : PySem.W.Frag) (f : Str) (x y : V) (H : Hp) (k : Hp → Prop) : Prop := match x with
  | .ref a => (match H a with | some (.ins C dx fs) => Cls K C ∧ NoAttr K C f ∧ fs.length < 1000 ∧ k (upd H a (.ins C dx (putF f y fs))) | _ => False)
  | _ => False
theorem setU_to {K : PySem.W.Frag} {f : Str} {x y : V} {H : Hp} {k : Hp → Prop} (h : setU K f x y H k) : ∃ a C dx fs, x = .ref a ∧ H a = some (.ins C dx fs) ∧ Cls K C ∧ NoAttr K C f ∧ fs.length < 1000 ∧ k (upd H a (.ins C dx (putF f y fs))) := by
  unfold setU at h
  split at h
  · split at h
    · exact ⟨_, _, _, _, rfl, ‹_›, h⟩
    · exact h.elim
  · exact h.elim
def sFldU (K : PySem.W.Frag) (ta tv : TE) (f : Str) : TS := fun D σ H => tv σ H fun y H1 => ta σ H1 fun x H2 => setU K f x y H2 (D.nx σ)
theorem su_fld {value : Expr} {f : Str} {pos' : Pos} {tv : TE} (ha : PE X o ta) (hv : PE X value tv) (hs : swapsWith value (some (.Attribute o f pos')) pos.line X.env = pure false := by rfl) : PS X (.Assign [.Attribute o f pos'] value pos) (sFldU X.K ta tv f) := by
  intro pins s σ H D I h
  refine plainObj_wpAny_Assign_Attribute (thn (hv pins s σ H _ I h) fun u s1 ⟨y, H1, I1, ry, q⟩ => thn (ha pins s1 σ H1 _ I1 q) fun ov s2 ⟨x, H2, I2, rx, z⟩ => ?_) hs
  obtain ⟨a, C, dx, fs, ex, ea, c, n, l, q2⟩ := setU_to z
  subst ex
  obtain rfl : ov = Value.ref a := rx
  exact setattr_ok I2 ea c n l ry fun s3 I3 => ⟨σ, _, I3, q2⟩
def iaddU : V → V → Hp → VK → Prop := fun x y H Q => match x, y with | .int i, .int j => Q (.int (i + j)) H | _, _ => False
theorem iu_add : InOp X .Add iaddU := fun pins s σ H x y u v Q I rx ry h => in_add pins s σ H x y u v Q I rx ry (by cases x <;> cases y <;> first | exact ⟨_, _, rfl, rfl, h⟩ | exact h.elim)
def sFldAugU (K : PySem.W.Frag) (ta tv : TE) (rd : V → V → Hp → VK → Prop) (f : Str) : TS := fun D σ H => ta σ H fun x H1 => fldU K f x H1 fun v H1' => tv σ H1' fun y H2 => rd v y H2 fun z H3 => setU K f x z H3 (D.nx σ)
theorem su_fldaug {value : Expr} {f : Str} {tpos : Pos} {tv : TE} {op : Operator} {rd : V → V → Hp → VK → Prop} (ha : PE X o ta) (hv : PE X value tv) (hop : InOp X op rd) : PS X (.AugAssign (.Attribute o f tpos) op value pos) (sFldAugU X.K ta tv rd f) := by
  intro pins s σ H D I h
  refine wpAny_AugAssign_AttributeAny (thn (ha pins s σ H _ I h) fun ov s1 ⟨x, H1, I1, rx, z⟩ => ?_)
  obtain ⟨a, C, dx, fs, v, ex, ea, c, n, l, q⟩ := fldU_to z
  subst ex
  obtain rfl : ov = Value.ref a := rx
  refine getattr_ok I1 ea c n l fun u s2 I2 ru => thn (hv pins s2 σ H1 _ I2 q) fun w3 s3 ⟨y, H2, I3, ry, q3⟩ => thn (hop pins s3 σ H2 v y u w3 _ I3 ru ry q3) fun w4 s4 ⟨z, H3, I4, rz, q4⟩ => ?_
  obtain ⟨a', C', dx', fs', ex', ea', c', n', l', q5⟩ := setU_to q4
  cases ex'
  exact setattr_ok I4 ea' c' n' l' rz fun s5 I5 => ⟨σ, _, I5, q5⟩

def recU (C : Addr) (m : Str) (x : V) (H : Hp) (k : Prop) : Prop := match x with
  | .ref a => (match H a with | some (.ins C' _ fs) => C' = C ∧ fs.lookup m = none ∧ k | _ => False)
  | _ => False
theorem recU_to {C : Addr} {m : Str} {x : V} {H : Hp} {k : Prop} (h : recU C m x H k) : ∃ a dx fs, x = .ref a ∧ H a = some (.ins C dx fs) ∧ fs.lookup m = none ∧ k := by
  unfold recU at h
  split at h
  · split at h
    · obtain ⟨rfl, h2, h3⟩ := h
      exact ⟨_, _, _, rfl, ‹_›, h2, h3⟩
    · exact h.elim
  · exact h.elim
def tMethU (C : Addr) (m : Str) (sp : Sp) (E : L2.St → XK) (ta : TE) (t : TA) : TE := fun σ H Q => ta σ H fun x H1 => recU C m x H1 (t σ H1 fun vs H2 => sp (x :: vs) H2 Q (E σ))
section
variable {CX : CXT} {k : Nat} {f C : Addr} {fd : FuncData} {ps : List Str} {sp : Sp} {E : L2.St → XK} {x m : Str} {p apos : Pos} {es : List Expr} {t : TA}
theorem eu_meth {pl : Sem Bool} (he : PE X o ta) (c : Cls X.K C) (hm : Meth X.K C m f) (F : FnOk X.prog X.w X.K X.mg X.base CX k f fd ps sp) (hr : Room k X.A) (hb : Binds X.K fd ps []) (hx : PassesX CX X E) (ha : PA X (e :: es) t)
    (hst : starEach (e :: es) X.env = (false, eval e X.env) :: starEach es X.env := by rfl) (hpl : (backTo pos (starEach es X.env)).any (·.1) = false := by rfl)
    (ht : eval (.Call (.Attribute o m apos) (e :: es) [] pos) X.env = (do
      let ov ← eval o X.env
      standAt apos.atName
      let (f, first) ← holding [ov] (getMethod ov m pl)
      callWith pos f first (backTo pos (starEach (e :: es) X.env)) (backToKw pos (keywordEach [] X.env))) := by rfl) :
    PE X (.Call (.Attribute o m apos) (e :: es) [] pos) (tMethU C m sp E ta t) := by
  intro pins s σ H Q I h
  refine PySem.W.methodCall_KW (pl := pl) (thn (he pins s σ H _ I h) fun u s1 ⟨x, H1, I1, rx, z⟩ => ?_) ht
  obtain ⟨a, dx, fs, ex, ea, l, q⟩ := recU_to z
  subst ex
  obtain rfl : u = Value.ref a := rx
  refine getmeth_ok I1 ea c hm l ?_
  refine PySem.W.callWith_K (first := [.ref a]) (h₀ := X.base) I.ok.mod.kin hm.kp (thn (ha pos pins s1 σ H1 _ I1 q) fun us s2 ⟨vs, H2, I2, r, q2⟩ => ⟨I2.kIn, ?_⟩) hst hpl
  exact run_fnX (dvs := []) (us := .ref a :: us) (vs := .ref a :: vs) F hr hb .nil hx I2 (.cons rfl r) (by rw [List.append_nil]; exact q2)
theorem eu_meth0 {pl : Sem Bool} (he : PE X o ta) (c : Cls X.K C) (hm : Meth X.K C m f) (F : FnOk X.prog X.w X.K X.mg X.base CX k f fd ps sp) (hr : Room k X.A) (hb : Binds X.K fd ps []) (hx : PassesX CX X E)
    (ht : eval (.Call (.Attribute o m apos) [] [] pos) X.env = (do
      let ov ← eval o X.env
      standAt apos.atName
      let (f, first) ← holding [ov] (getMethod ov m pl)
      callWith pos f first (backTo pos (starEach [] X.env)) (backToKw pos (keywordEach [] X.env))) := by rfl) :
    PE X (.Call (.Attribute o m apos) [] [] pos) (tMethU C m sp E ta tNil) := by
  intro pins s σ H Q I h
  refine PySem.W.methodCall_KW (pl := pl) (thn (he pins s σ H _ I h) fun u s1 ⟨x, H1, I1, rx, z⟩ => ?_) ht
  obtain ⟨a, dx, fs, ex, ea, l, q⟩ := recU_to z
  subst ex
  obtain rfl : u = Value.ref a := rx
  refine getmeth_ok I1 ea c hm l ?_
  exact PySem.W.callWith_K0 (first := [.ref a]) I1.kIn hm.kp (run_fnX (dvs := []) (us := [.ref a]) (vs := [.ref a]) F hr hb .nil hx I1 (.cons rfl .nil) q)
def tCallU (sp : Sp) (E : L2.St → XK) (t : TA) : TE := fun σ H Q => t σ H fun vs H1 => sp vs H1 Q (E σ)
theorem eu_call (F : FnOk X.prog X.w X.K X.mg X.base CX k f fd ps sp) (hr : Room k X.A) (hg : Gl X x) (hm : X.mg x = some (.ref f)) (hk : PySem.W.keepIn X.K (.ref f) = true) (hb : Binds X.K fd ps []) (hx : PassesX CX X E)
    (ha : PA X (e :: es) t) (hdb : (x == ("__debug__" : Str)) = false := by decide) (he : starEach (e :: es) X.env = (false, eval e X.env) :: starEach es X.env := by rfl) (hpl : (backTo pos (starEach es X.env)).any (·.1) = false := by rfl) :
    PE X (.Call (.Name x p) (e :: es) [] pos) (tCallU sp E t) := by
  intro pins s σ H Q I h
  refine pe_callX (dvs := []) F hr hg hm hk hb .nil hx ha hdb he hpl pins s σ H Q I ?_
  show t σ H fun vs H1 => sp (vs ++ []) H1 Q (E σ)
  simp only [List.append_nil]
  exact h
def tMakeU (C : Addr) (sp : Sp) (E : L2.St → XK) (t : TA) : TE := fun σ H Q => t σ H fun vs H1 => ∀ x dx, H1 x = none → H1 dx = none → dx ≠ x →
  sp (.ref x :: vs) (upd (upd H1 dx (.own x)) x (.ins C dx [])) (fun v H2 => v = .non ∧ Q (.ref x) H2) (E σ)
theorem eu_make (M : Mk X.K C f) (F : FnOk X.prog X.w X.K X.mg X.base CX k f fd ps sp) (hr : Room (k + 1) X.A) (hg : Gl X x) (hm : X.mg x = some (.ref C)) (hb : Binds X.K fd ps []) (hx : PassesX CX X E)
    (ha : PA X (e :: es) t) (hdb : (x == ("__debug__" : Str)) = false := by decide) (he : starEach (e :: es) X.env = (false, eval e X.env) :: starEach es X.env := by rfl) (hpl : (backTo pos (starEach es X.env)).any (·.1) = false := by rfl) :
    PE X (.Call (.Name x p) (e :: es) [] pos) (tMakeU C sp E t) := by
  intro pins s σ H Q I h
  refine pe_makeX (dvs := []) M F hr hg hm hb .nil hx ha hdb he hpl pins s σ H Q I ?_
  show t σ H fun vs H1 => ∀ x dx, H1 x = none → H1 dx = none → dx ≠ x → sp (.ref x :: (vs ++ [])) _ _ (E σ)
  simp only [List.append_nil]
  exact h
end

def keyOf : V → Option Key
  | .int i => some (.inl i)
  | .str x => some (.inr x)
  | _ => none
theorem keyOf_to {y : V} {k : Key} (h : keyOf y = some k) : y = kV k := by
  cases y <;> first | (cases h; rfl) | cases h
def dgU (x y : V) (H : Hp) (Q : VK) : Prop := match x with
  | .ref a => (match H a with | some (.dK kvs) => (match keyOf y with | some k => (match valV kvs k with | some v => Q v H | none => False) | none => False) | _ => False)
  | _ => False
theorem dgU_to {x y : V} {H : Hp} {Q : VK} (h : dgU x y H Q) : ∃ a v, x = .ref a ∧ DGet H a y (some v) ∧ Q v H := by
  unfold dgU at h
  split at h
  · split at h
    · split at h
      · split at h
        · exact ⟨_, _, rfl, .inl ⟨_, _, .inl ‹_›, keyOf_to ‹_›, (‹_› : _ = some _).symm⟩, h⟩
        · exact h.elim
      · exact h.elim
    · exact h.elim
  · exact h.elim
def tDGetU (td ty : TE) : TE := fun σ H Q => td σ H fun x H1 => ty σ H1 fun y H2 => dgU x y H2 Q
theorem eu_dget {i : Expr} {td ty : TE} (hu : X.A.units + 1 < cLine) (ho : PE X o td) (hi : PE X i ty) (hs : NoSl i := by intro _ _; rfl) : PE X (.Subscript o i pos) (tDGetU td ty) := by
  intro pins s σ H Q I h
  refine subD_of PySem.F.slot_dict_getitem.lookup hs (thn (ho pins s σ H _ I h) fun u s1 ⟨x, H1, I1, rx, q1⟩ => thn (hi pins s1 σ H1 _ I1 q1) fun iv s2 ⟨y, H2, I2, ry, z⟩ => ?_)
  obtain ⟨a, v, ex, g, q2⟩ := dgU_to z
  subst ex
  obtain rfl : u = Value.ref a := rx
  exact ⟨dict_typeIs I2 g, d_getItem hu I2 g ry fun w' s3 I3 rw' => ⟨v, H2, I3, rw', q2⟩⟩
def dpU (x y v : V) (H : Hp) (k : Hp → Prop) : Prop := match x with
  | .ref a => (match H a with | some (.dK kvs) => (match keyOf y with | some q => kvs.length < sizeLine ∧ k (upd H a (.dK (putK kvs q v))) | none => False) | _ => False)
  | _ => False
def sDPutU (td ty tv : TE) : TS := fun D σ H => tv σ H fun v H1 => td σ H1 fun x H2 => ty σ H2 fun y H3 => dpU x y v H3 (D.nx σ)
def lpU (x y v : V) (H : Hp) (k : Hp → Prop) : Prop := match x, y with
  | .ref p, .int i => (match H p with | some (.lst xs) => (match ixN xs.length i with | some j => k (upd H p (.lst (xs.set j v))) | none => False) | _ => False)
  | _, _ => False
theorem lpU_to {x y v : V} {H : Hp} {k : Hp → Prop} (h : lpU x y v H k) : rSetL x y v H k := by
  unfold lpU at h
  split at h
  · split at h
    · split at h
      · exact ⟨_, _, _, _, rfl, rfl, ‹_›, ‹_›, h⟩
      · exact h.elim
    · exact h.elim
  · exact h.elim
def sLPutU (td ty tv : TE) : TS := fun D σ H => tv σ H fun v H1 => td σ H1 fun x H2 => ty σ H2 fun y H3 => lpU x y v H3 (D.nx σ)
theorem su_lput {i value : Expr} {td ty tv : TE} {pos' : Pos} (ho : PE X o td) (hi : PE X i ty) (hv : PE X value tv) (hs : swapsWith value (some (.Subscript o i pos')) pos.line X.env = pure false := by rfl) :
    PS X (.Assign [.Subscript o i pos'] value pos) (sLPutU td ty tv) := by
  intro pins s σ H D I h
  refine wpAny_Assign_Subscript (thn (hv pins s σ H _ I h) fun r s1 ⟨v, H1, I1, rv, q1⟩ => thn (ho pins s1 σ H1 _ I1 q1) fun u s2 ⟨x, H2, I2, rx, q2⟩ => thn (hi pins s2 σ H2 _ I2 q2) fun iv s3 ⟨y, H3, I3, ry, z⟩ => ?_) hs
  exact thn (set_list pins s3 σ H3 x y v u iv r _ I3 rx ry rv (lpU_to z)) fun _ s4 ⟨H4, I4, q4⟩ => ⟨σ, H4, I4, q4⟩

def ixU : R2 := fun x y H Q => match x, y with
  | .ref p, .int i => (match H p with
    | some (.lst xs) => (match atI xs i with | some v => Q v H | none => False)
    | some (.tup xs) => (match atI xs i with | some v => Q v H | none => False)
    | _ => False)
  | _, _ => False
theorem xu_seq : IxR X ixU := IxR.imp (IxR.or ix_list ix_tup) fun x y H Q h => by
  unfold ixU at h
  split at h
  · split at h
    · split at h
      · exact .inl ⟨_, _, _, _, rfl, rfl, .inl (.inl ‹_›), ‹_›, h⟩
      · exact h.elim
    · split at h
      · exact .inr ⟨_, _, _, _, rfl, rfl, .inl (.inl ‹_›), ‹_›, h⟩
      · exact h.elim
    · exact h.elim
  · exact h.elim
theorem eu_ix {i : Expr} {ti : TE} {r : R2} (hr : IxR X r) (ha : PE X a ta) (hb : PE X i ti) (hs : PlainIx i := by intro _ _; rfl) : PE X (.Subscript a i pos) (tOp r ta ti) := pe_ix hr ha hb hs
def lenU : List V → Hp → VK → Prop := fun xs H Q => match xs with
  | [.ref p] => (match H p with | some (.lst ys) => Q (.int ys.length) H | some (.tup ys) => Q (.int ys.length) H | some (.dK ks) => Q (.int ks.length) H | _ => False)
  | [.str z] => z.length ≤ sizeLine ∧ Q (.int z.length) H
  | _ => False
theorem cu_len : CallR X (.builtin "len") lenU := CallR.imp (CallR.or call_len_seq (CallR.or call_lenD call_len_str)) fun xs H Q h => by
  unfold lenU at h
  split at h
  · split at h
    · exact .inl ⟨_, _, rfl, .inl (.inl (.inl ‹_›)), h⟩
    · exact .inl ⟨_, _, rfl, .inr (.inl (.inl ‹_›)), h⟩
    · exact .inr (.inl ⟨_, _, rfl, ‹_›, h⟩)
    · exact h.elim
  · exact .inr (.inr ⟨_, rfl, h.1, h.2⟩)
  · exact h.elim
def listU : List V → Hp → VK → Prop := fun xs H Q => match xs with
  | [.ref p] => (match H p with | some (.lst ys) => ∀ l, H l = none → Q (.ref l) (upd H l (.lst ys)) | some (.tup ys) => ∀ l, H l = none → Q (.ref l) (upd H l (.lst ys)) | _ => False)
  | _ => False
theorem cu_list : CallR X (.type "list") listU := CallR.imp call_list_of fun xs H Q h => by
  unfold listU at h
  split at h
  · split at h
    · exact ⟨_, _, rfl, .inl (.inl (.inl ‹_›)), h⟩
    · exact ⟨_, _, rfl, .inr (.inl (.inl ‹_›)), h⟩
    · exact h.elim
  · exact h.elim
def intU : List V → Hp → VK → Prop := fun xs H Q => match xs with
  | [.int i] => Q (.int i) H
  | [.bl k] => Q (.int (if k then 1 else 0)) H
  | _ => False
end
end LX

set_option Elab.async false
set_option linter.all false
set_option maxRecDepth 100000
namespace LX
open PySem PySem.Spec PyProof.Rows L2

section
variable {X : Cx}
def isBl : V → Bool
  | .bl _ => true
  | _ => false
def isTr : V → Bool
  | .bl true => true
  | _ => false
def allU : List V → Hp → VK → Prop := fun xs H Q => match xs with
  | [.ref p] => (match H p with | some (.lst ys) => ys.all isBl = true ∧ Q (.bl (ys.all isTr)) H | _ => False)
  | _ => False
def tyO (H : Hp) : V → Option Value
  | .non => some (.type "NoneType")
  | .bl _ => some (.type "bool")
  | .int _ => some (.type "int")
  | .str _ => some (.type "str")
  | .ref a => (match H a with | some (.lst _) => some (.type "list") | some (.tup _) => some (.type "tuple") | some (.dK _) => some (.type "dict") | _ => none)
  | _ => none
def okC : V → Bool
  | .ty _ => true
  | .ref _ => true
  | _ => false
def isiU (K : PySem.W.Frag) : List V → Hp → VK → Prop := fun xs H Q => match xs with
  | [x, c] => okC c = true ∧ (match tyO H x with | some t => (match PySem.W.kitOne K t (cV c) with | some b => Q (.bl b) H | none => False) | none => False)
  | _ => False
def minU : List V → Hp → VK → Prop := fun xs H Q => match xs with
  | [.int i, .int j] => Q (.int (if j < i then j else i)) H
  | _ => False
theorem cu_min (hc : X.calm = true) : CallR X (.builtin "min") minU := CallR.imp (call_min2 hc) fun xs H Q h => by
  unfold minU at h
  split at h
  · exact ⟨_, _, rfl, h⟩
  · exact h.elim
end

theorem upd_new {H : Hp} {l p : Addr} {o u : HO} (hl : H l = none) (hp : H p = some u) : upd H l o p = some u := by rw [upd_ne (ne_of_none hp hl)]; exact hp
theorem same_new {H : Hp} {l : Addr} {o : HO} (hl : H l = none) : Same H (upd H l o) := fun b u e => upd_new hl e
def But (xs : List Addr) (H H' : Hp) : Prop := ∀ b o, H b = some o → b ∉ xs → H' b = some o
theorem But.refl (xs : List Addr) (H : Hp) : But xs H H := fun _ _ e _ => e
theorem But.same {xs : List Addr} {H H' : Hp} (s : Same H H') : But xs H H' := fun b o e _ => s b o e
theorem But.trans {xs : List Addr} {H H1 H2 : Hp} (a : But xs H H1) (b : But xs H1 H2) : But xs H H2 := fun c o e n => b c o (a c o e n) n
theorem But.upd {xs : List Addr} {H : Hp} {a : Addr} {o : HO} (h : a ∈ xs) : But xs H (L2.upd H a o) := fun b u e n => by rw [upd_ne (fun z : b = a => n (by rw [z]; exact h))]; exact e
theorem But.mono {xs ys : List Addr} {H H' : Hp} (a : But xs H H') (s : ∀ x ∈ xs, x ∈ ys) : But ys H H' := fun b o e n => a b o e fun z => n (s b z)
end LX

namespace Lf

structure Fl where
  high : List Bool
  inside : List (Option Int)
  up : List Int
  down : List Int
  sides : List Bool
  gone : List Int
  drawn : Int
  out : Int

structure Md where
  high : List Bool
  sides : List Bool
  places : List (Int × Int)
  through : List Int
  drawn : Int
  out : Int

def isCh (n : Nat) (p : Int) : Bool := decide (0 < p) && decide (p < (n : Int) + 1)
def canGive (h : List Bool) (p : Int) : Bool := if isCh h.length p then h.getD (p - 1).toNat false else true
def canTake (h : List Bool) (p : Int) : Bool := if isCh h.length p then !h.getD (p - 1).toNat false else true
def level (h : List Bool) (g : Int) : Bool := canGive h g && canTake h (g + 1)

inductive LetR | noGate | noFall | done
  deriving DecidableEq
inductive SailR | noBoat | notFirst | shut | occupied | done
  deriving DecidableEq

def letOut (h : List Bool) (g : Int) : LetR :=
  if g < 0 ∨ (h.length : Int) + 1 ≤ g then .noGate else if !canGive h (g + 1) then .noFall else if !canTake h g then .noFall else .done
def giveH (h : List Bool) (p : Int) : List Bool := if isCh h.length p then h.set (p - 1).toNat false else h
def takeH (h : List Bool) (p : Int) : List Bool := if isCh h.length p then h.set (p - 1).toNat true else h
def letH (h : List Bool) (g : Int) : List Bool := takeH (giveH h (g + 1)) g
def Fl.let (f : Fl) (g : Int) : Fl := { f with high := letH f.high g, drawn := f.drawn + (if isCh f.high.length (g + 1) then 0 else 1), out := f.out + (if isCh f.high.length g then 0 else 1) }

def Md.let (m : Md) (g : Int) : Md :=
  { m with high := (if 0 < g then (if g < m.high.length then m.high.set g.toNat false else m.high).set (g - 1).toNat true else (if g < m.high.length then m.high.set g.toNat false else m.high)),
           drawn := m.drawn + (if g = m.high.length then 1 else 0), out := m.out + (if g = 0 then 1 else 0) }

theorem isCh_true {n : Nat} {p : Int} (h1 : 0 < p) (h2 : p < (n : Int) + 1) : isCh n p = true := by simp [isCh, h1, h2]
theorem isCh_lo {n : Nat} {p : Int} (h1 : p ≤ 0) : isCh n p = false := by
  have : ¬ 0 < p := by omega
  simp [isCh, this]
theorem isCh_hi {n : Nat} {p : Int} (h1 : (n : Int) + 1 ≤ p) : isCh n p = false := by
  have : ¬ p < (n : Int) + 1 := by omega
  simp [isCh, this]

theorem letH_len (h : List Bool) (g : Int) : (letH h g).length = h.length := by
  unfold letH takeH giveH
  split <;> split <;> simp

theorem let_done {h : List Bool} {g : Int} (d : letOut h g = .done) : 0 ≤ g ∧ g ≤ h.length ∧ canGive h (g + 1) = true ∧ canTake h g = true := by
  unfold letOut at d
  split at d
  · cases d
  · rename_i c
    split at d
    · cases d
    · rename_i c1
      split at d
      · cases d
      · rename_i c2
        refine ⟨by omega, by omega, ?_, ?_⟩
        · simpa using c1
        · simpa using c2

def Fl.new (h : List Bool) : Fl := ⟨h, List.replicate h.length none, [], [], [], [], 0, 0⟩
def Md.new (h : List Bool) : Md := ⟨h, [], [], [], 0, 0⟩
def Md.keys (m : Md) : List Int := m.places.map (·.1)
def Md.side (m : Md) (b : Int) : Bool := m.sides.getD b.toNat false
def stepOf (side : Bool) (here : Int) : Int := if side then here - 1 else here + 1
def Md.ahead (m : Md) (b here : Int) : List Int := m.keys.filter fun one => (m.places.lookup one == some here) && (m.side one == m.side b) && decide (one < b)
def shutAt (h : List Bool) (g : Int) : Bool := !(([true] ++ h ++ [false]).getD g.toNat false) || ([true] ++ h ++ [false]).getD (g + 1).toNat false
def Md.sailWord (m : Md) (b : Int) : SailR := match m.places.lookup b with
  | none => .noBoat
  | some here =>
    if (here = 0 ∨ here = (m.high.length : Int) + 1) ∧ 0 < (m.ahead b here).length then .notFirst
    else if shutAt m.high (min here (stepOf (m.side b) here)) then .shut
    else if (0 < stepOf (m.side b) here ∧ stepOf (m.side b) here ≤ m.high.length) ∧ stepOf (m.side b) here ∈ m.places.map (·.2) then .occupied
    else .done
def putAt (b p : Int) : List (Int × Int) → List (Int × Int)
  | [] => []
  | (c, q) :: r => if c = b then (c, p) :: r else (c, q) :: putAt b p r
def dropAt (b : Int) (l : List (Int × Int)) : List (Int × Int) := l.filter fun x => decide (x.1 ≠ b)
def outOf (n : Nat) (p : Int) : Bool := decide (p = 0) || decide (p = (n : Int) + 1)
def Md.sail (m : Md) (b : Int) : Md := match m.places.lookup b with
  | none => m
  | some here =>
    if outOf m.high.length (stepOf (m.side b) here) then { m with places := dropAt b m.places, through := m.through ++ [b] }
    else { m with places := putAt b (stepOf (m.side b) here) m.places }
def Md.come (m : Md) (side : Bool) : Md := { m with sides := m.sides ++ [side], places := m.places ++ [((m.sides.length : Int), if side then (m.high.length : Int) + 1 else 0)] }

def Fl.row (f : Fl) (side : Bool) : List Int := if side then f.down else f.up
def Fl.place? (f : Fl) (b : Int) : Option Int :=
  if b ∈ f.up then some 0 else if b ∈ f.down then some ((f.high.length : Int) + 1) else if some b ∈ f.inside then some ((f.inside.idxOf (some b) : Int) + 1) else none
def Fl.side (f : Fl) (b : Int) : Bool := f.sides.getD b.toNat false
def Fl.sailOut (f : Fl) (b : Int) : SailR := match f.place? b with
  | none => .noBoat
  | some here =>
    if b ∈ f.row (f.side b) ∧ (f.row (f.side b)).head? ≠ some b then .notFirst
    else if !level f.high (min here (stepOf (f.side b) here)) then .shut
    else if isCh f.high.length (stepOf (f.side b) here) ∧ f.inside.getD (stepOf (f.side b) here - 1).toNat none ≠ none then .occupied
    else .done
def Fl.leave (f : Fl) (here : Int) (side : Bool) : Fl :=
  if isCh f.high.length here then { f with inside := f.inside.set (here - 1).toNat none } else if side then { f with down := f.down.drop 1 } else { f with up := f.up.drop 1 }
def Fl.enter (f : Fl) (there b : Int) : Fl :=
  if isCh f.high.length there then { f with inside := f.inside.set (there - 1).toNat (some b) } else { f with gone := f.gone ++ [b] }
def Fl.sail (f : Fl) (b here : Int) : Fl := (f.leave here (f.side b)).enter (stepOf (f.side b) here) b
def Fl.come (f : Fl) (side : Bool) : Fl := { f with sides := f.sides ++ [side], up := if side then f.up else f.up ++ [(f.sides.length : Int)], down := if side then f.down ++ [(f.sides.length : Int)] else f.down }

section
variable {f : Fl} {m : Md}
end

section
variable {f : Fl} {m : Md}
end

def cnt (h : List Bool) : Int := (h.count true : Nat)
theorem cnt_set : ∀ {h : List Bool} {i : Nat} {a : Bool} (b : Bool), h[i]? = some a → cnt (h.set i b) = cnt h + (if b then 1 else 0) - (if a then 1 else 0)
  | [], i, a, b, e => by simp at e
  | x :: h, 0, a, b, e => by
    simp at e; subst e
    unfold cnt
    simp only [List.set_cons_zero, List.count_cons]
    cases x <;> cases b <;> simp <;> omega
  | x :: h, i + 1, a, b, e => by
    have ih := cnt_set (h := h) (i := i) (a := a) b (by simpa using e)
    unfold cnt at ih ⊢
    simp only [List.set_cons_succ, List.count_cons]
    cases x <;> simp at ih ⊢ <;> omega
theorem getD_some {h : List Bool} {i : Nat} {a : Bool} (hi : i < h.length) (e : h.getD i false = a) : h[i]? = some a := by
  rw [List.getD_eq_getElem?_getD, List.getElem?_eq_getElem hi, Option.getD_some] at e
  rw [List.getElem?_eq_getElem hi, e]

theorem let_cnt {h : List Bool} {g : Int} (d : letOut h g = .done) : cnt (letH h g) = cnt h + (if g = h.length then 1 else 0) - (if g = 0 then 1 else 0) := by
  obtain ⟨h0, h1, h2, h3⟩ := let_done d
  unfold letH takeH giveH
  unfold canGive at h2
  unfold canTake at h3
  by_cases a : g < h.length
  · have ca : isCh h.length (g + 1) = true := isCh_true (by omega) (by omega)
    rw [ca, if_pos rfl] at h2
    simp only [ca, if_true, List.length_set]
    rw [if_neg (show ¬ g = (h.length : Int) by omega)]
    have hg : h[(g + 1 - 1).toNat]? = some true := getD_some (by omega) h2
    have c1 := cnt_set false hg
    by_cases z : 0 < g
    · have cz : isCh h.length g = true := isCh_true z (by omega)
      rw [cz, if_pos rfl] at h3
      rw [if_pos cz, if_neg (show ¬ g = 0 by omega)]
      have hg1 : h[(g - 1).toNat]? = some false := getD_some (by omega) (by simpa using h3)
      have hg2 : (h.set (g + 1 - 1).toNat false)[(g - 1).toNat]? = some false := by rw [List.getElem?_set_ne (by omega)]; exact hg1
      rw [cnt_set true hg2, c1]
      simp
    · rw [isCh_lo (by omega : g ≤ 0), if_pos (by omega : g = 0)]
      simp only [Bool.false_eq_true, if_false]
      rw [c1]; simp
  · have e : g = h.length := by omega
    rw [if_pos e, isCh_hi (show (h.length : Int) + 1 ≤ g + 1 by omega)]
    simp only [Bool.false_eq_true, if_false]
    by_cases z : 0 < g
    · have cz : isCh h.length g = true := isCh_true z (by omega)
      rw [cz, if_pos rfl] at h3
      rw [cz, if_pos rfl, if_neg (by omega)]
      have hg1 : h[(g - 1).toNat]? = some false := getD_some (by omega) (by simpa using h3)
      rw [cnt_set true hg1]; simp
    · rw [isCh_lo (by omega : g ≤ 0), if_pos (by omega : g = 0)]
      simp
end Lf

namespace Lf
def Fl.within (f : Fl) (sd : Bool) : List Int :=
  if sd then (f.inside.filterMap id).filter (fun b => f.side b == sd) else ((f.inside.filterMap id).filter (fun b => f.side b == sd)).reverse
end Lf

namespace Lf
def cost1 (h : List Bool) (dn : Bool) : Int := if dn then (if h.getLastD true then 0 else 1) else 1 + ((h.drop 1).count false : Nat)
def costSt (x : List Bool × Int) (d : Bool) : List Bool × Int := (x.1.map fun _ => !d, x.2 + cost1 x.1 d)
def costOf (h S : List Bool) : Int := (S.foldl costSt (h, 0)).2
def aft (h S : List Bool) : List Bool := (S.foldl costSt (h, 0)).1
theorem costOf_snoc (h S : List Bool) (d : Bool) : costOf h (S ++ [d]) = costOf h S + cost1 (aft h S) d := by
  unfold costOf aft; rw [List.foldl_append]; rfl
theorem aft_snoc (h S : List Bool) (d : Bool) : aft h (S ++ [d]) = (aft h S).map fun _ => !d := by
  unfold aft; rw [List.foldl_append]; rfl
theorem aft_len (h : List Bool) (S : List Bool) : (aft h S).length = h.length := by
  unfold aft
  have : ∀ (S : List Bool) (x : List Bool × Int), (S.foldl costSt x).1.length = x.1.length := by
    intro S
    induction S with
    | nil => intro x; rfl
    | cons d r ih => intro x; rw [List.foldl_cons, ih]; unfold costSt; simp
  exact this S _
theorem map_const {α β : Type} (l : List α) (b : β) : (l.map fun _ => b) = List.replicate l.length b := by
  induction l with
  | nil => rfl
  | cons a r ih => simp [List.replicate_succ, ih]
theorem aft_last (h S : List Bool) (d : Bool) : aft h (S ++ [d]) = List.replicate h.length (!d) := by
  rw [aft_snoc, map_const, aft_len]
theorem cnt_low (h : List Bool) : ((h.count false : Nat) : Int) = (h.length : Int) - cnt h := by
  unfold cnt
  induction h with
  | nil => rfl
  | cons a r ih => simp only [List.count_cons, List.length_cons]; cases a <;> simp <;> omega
def base (h0 S : List Bool) (k : Nat) : Int := match S.getLast? with
  | none => - cnt (h0.drop k)
  | some false => costOf h0 S - ((h0.length : Int) - k)
  | some true => costOf h0 S
end Lf

namespace Lf
end Lf

namespace Lf
def mayS (u w : Nat) (l : Option Bool) (r p : Int) (d : Bool) : Bool := decide ((if d then w else u) ≠ 0) && (decide ((if d then u else w) = 0) || decide (some d ≠ l) || decide (r < p))
def sidesS (u w : Nat) (l : Option Bool) (r p : Int) : List Bool := [true, false].filter (mayS u w l r p)
def minL : List Int → Int
  | [] => 0
  | a :: r => r.foldl (fun x y => if y < x then y else x) a
def uB (u : Nat) (d : Bool) : Nat := if d then u else u - 1
def wB (w : Nat) (d : Bool) : Nat := if d then w - 1 else w
def rB (l : Option Bool) (r : Int) (d : Bool) : Int := if some d = l then r + 1 else 1
def rstF (n : Nat) (p : Int) : Nat → Nat → Nat → Bool → Int → Int
  | 0, _, _, _, _ => 0
  | m + 1, u, w, l, r => minL ((sidesS u w (some l) r p).map fun d => cost1 (List.replicate n (!l)) d + rstF n p m (uB u d) (wB w d) d (rB (some l) r d))
def rst (n : Nat) (p : Int) (u w : Nat) (l : Bool) (r : Int) : Int := rstF n p (u + w) u w l r
theorem sides_mem {u w : Nat} {l : Option Bool} {r p : Int} {d : Bool} (h : d ∈ sidesS u w l r p) : mayS u w l r p d = true := (List.mem_filter.mp h).2
theorem may_pos {u w : Nat} {l : Option Bool} {r p : Int} {d : Bool} (h : mayS u w l r p d = true) : uB u d + wB w d + 1 = u + w := by
  unfold mayS at h
  unfold uB wB
  simp only [Bool.and_eq_true, decide_eq_true_eq] at h
  obtain ⟨h1, _⟩ := h
  cases d <;> simp at h1 ⊢ <;> omega
theorem sides_nil {u w : Nat} {l : Option Bool} {r p : Int} (h : u + w = 0) : sidesS u w l r p = [] := by
  have h1 : u = 0 := by omega
  have h2 : w = 0 := by omega
  subst h1 h2
  unfold sidesS mayS; simp
theorem sides_ne {u w : Nat} {l : Option Bool} {r p : Int} (h : u + w ≠ 0) : sidesS u w l r p ≠ [] := by
  unfold sidesS mayS
  by_cases hu : u = 0
  · have hw : w ≠ 0 := by omega
    simp [hu, hw]
  · by_cases hw : w = 0
    · simp [hu, hw]
    · cases l with
      | none => simp [hu, hw]
      | some b => cases b <;> simp [hu, hw]
theorem rst_eq (n : Nat) (p : Int) (u w : Nat) (l : Bool) (r : Int) :
    rst n p u w l r = minL ((sidesS u w (some l) r p).map fun d => cost1 (List.replicate n (!l)) d + rst n p (uB u d) (wB w d) d (rB (some l) r d)) := by
  unfold rst
  cases h : u + w with
  | zero => rw [sides_nil h]; rfl
  | succ m =>
    rw [rstF]
    congr 1
    refine List.map_congr_left fun d hd => ?_
    have := may_pos (sides_mem hd)
    have e : uB u d + wB w d = m := by omega
    rw [e]
theorem rep_len {α : Type} (n : Nat) (a : α) : (List.replicate n a).length = n := List.length_replicate
end Lf
namespace Lf
end Lf
namespace Lf
end Lf
namespace Lf
end Lf

namespace Lf
inductive Deed
  | let (g : Int)
  | sail (b : Int)
inductive Run : Fl → List Deed → Fl → Prop
  | nil {f : Fl} : Run f [] f
  | let {f f' : Fl} {g : Int} {ds : List Deed} : letOut f.high g = .done → Run (f.let g) ds f' → Run f (.let g :: ds) f'
  | sail {f f' : Fl} {b here : Int} {ds : List Deed} : f.place? b = some here → f.sailOut b = .done → Run (f.sail b here) ds f' → Run f (.sail b :: ds) f'
theorem Run.trans {f f1 f2 : Fl} {ds es : List Deed} (r : Run f ds f1) (q : Run f1 es f2) : Run f (ds ++ es) f2 := by
  induction r with
  | nil => exact q
  | «let» h _ ih => exact .let h (ih q)
  | sail h1 h2 _ ih => exact .sail h1 h2 (ih q)
theorem Run.let1 {f f1 : Fl} {ds : List Deed} {g : Int} (r : Run f ds f1) (d : letOut f1.high g = .done) : Run f (ds ++ [.let g]) (f1.let g) := r.trans (.let d .nil)
theorem Run.sail1 {f f1 : Fl} {ds : List Deed} {b here : Int} (r : Run f ds f1) (p : f1.place? b = some here) (d : f1.sailOut b = .done) : Run f (ds ++ [.sail b]) (f1.sail b here) := r.trans (.sail p d .nil)
theorem letH_at {h : List Bool} {g : Nat} (hg : g ≤ h.length) {i : Nat} (hi : i < h.length) : (letH h (g : Int)).getD i false = if i + 1 = g then true else if i = g then false else h.getD i false := by
  unfold letH takeH giveH
  by_cases a : g < h.length
  · have ca : isCh h.length ((g : Int) + 1) = true := isCh_true (by omega) (by omega)
    simp only [ca, if_true, List.length_set]
    rw [show ((g : Int) + 1 - 1).toNat = g by omega]
    by_cases b : 0 < g
    · have cb : isCh h.length (g : Int) = true := isCh_true (by omega) (by omega)
      simp only [cb, if_true]
      simp only [List.getD_eq_getElem?_getD, List.getElem?_set, List.length_set]
      by_cases e1 : i + 1 = g
      · rw [if_pos (by omega), if_pos (by omega), if_pos e1]; rfl
      · rw [if_neg (by omega), if_neg e1]
        by_cases e2 : i = g
        · rw [if_pos e2.symm, if_pos (by omega), if_pos e2]; rfl
        · rw [if_neg (fun z => e2 z.symm), if_neg e2]
    · have g0 : g = 0 := by omega
      subst g0
      have cb : isCh h.length ((0 : Nat) : Int) = false := by unfold isCh; simp
      simp only [cb, Bool.false_eq_true, if_false]
      simp only [List.getD_eq_getElem?_getD, List.getElem?_set]
      rw [if_neg (by omega : ¬ i + 1 = 0)]
      by_cases e2 : i = 0
      · rw [if_pos e2.symm, if_pos (by omega), if_pos e2]; rfl
      · rw [if_neg (fun z => e2 z.symm), if_neg e2]
  · have gn : g = h.length := by omega
    subst gn
    have ca : isCh h.length ((h.length : Int) + 1) = false := by unfold isCh; simp
    have cb : isCh h.length (h.length : Int) = true := isCh_true (by omega) (by omega)
    simp only [ca, cb, Bool.false_eq_true, if_false, if_true]
    simp only [List.getD_eq_getElem?_getD, List.getElem?_set]
    by_cases e1 : i + 1 = h.length
    · rw [if_pos (by omega), if_pos (by omega), if_pos e1]; rfl
    · rw [if_neg (by omega), if_neg e1, if_neg (by omega)]
structure Wt (f f' : Fl) : Prop where
  ins : f'.inside = f.inside
  up : f'.up = f.up
  dn : f'.down = f.down
  sd : f'.sides = f.sides
  gn : f'.gone = f.gone
  ln : f'.high.length = f.high.length
theorem Wt.refl (f : Fl) : Wt f f := ⟨rfl, rfl, rfl, rfl, rfl, rfl⟩
theorem Wt.let {f f1 : Fl} (w : Wt f f1) (g : Int) : Wt f (f1.let g) := ⟨w.ins, w.up, w.dn, w.sd, w.gn, by show (letH f1.high g).length = _; rw [letH_len]; exact w.ln⟩
def Fl.hi (f : Fl) (i : Nat) : Bool := f.high.getD i false
structure MH (f f' : Fl) (c : Nat) : Prop where
  wt : Wt f f'
  dr : f'.drawn = f.drawn + cnt f'.high - cnt f.high
  low : ∀ i, i + 1 < c → i < f.high.length → f'.hi i = f.hi i
  top : c ≤ f.high.length → f'.hi (c - 1) = true
  nxt : f.hi (c - 1) = false → c < f.high.length → f'.hi c = false
theorem MH.stay {f : Fl} {c : Nat} (h : f.high.length < c ∨ f.hi (c - 1) = true) : MH f f c :=
  ⟨Wt.refl f, by omega, fun _ _ _ => rfl, fun hc => by rcases h with h | h; omega; exact h, fun h1 h2 => by rcases h with h | h; omega; rw [h] at h1; cases h1⟩
theorem MH.step {f f1 : Fl} {c : Nat} (c1 : 1 ≤ c) (c2 : c ≤ f.high.length) (h : f.hi (c - 1) = false) (m : MH f f1 (c + 1)) : letOut f1.high (c : Int) = .done ∧ MH f (f1.let (c : Int)) c := by
  have ln := m.wt.ln
  have l0 : f1.hi (c - 1) = false := by rw [m.low (c - 1) (by omega) (by omega)]; exact h
  have d : letOut f1.high (c : Int) = .done := by
    unfold letOut
    rw [if_neg (by omega)]
    have g1 : canGive f1.high ((c : Int) + 1) = true := by
      unfold canGive
      by_cases a : c < f.high.length
      · rw [isCh_true (by omega) (by omega), if_pos rfl, show ((c : Int) + 1 - 1).toNat = c by omega]
        exact m.top (by omega)
      · have : isCh f1.high.length ((c : Int) + 1) = false := by unfold isCh; simp; omega
        rw [this]; simp
    have g2 : canTake f1.high (c : Int) = true := by
      unfold canTake
      rw [isCh_true (by omega) (by omega), if_pos rfl, show ((c : Int) - 1).toNat = c - 1 by omega]
      show (!f1.hi (c - 1)) = true
      rw [l0]; rfl
    rw [g1, g2]; rfl
  have at' : ∀ i, i < f.high.length → (f1.let (c : Int)).hi i = if i + 1 = c then true else if i = c then false else f1.hi i := fun i hi => letH_at (by omega) (by omega)
  refine ⟨d, ⟨m.wt.let _, ?_, fun i h1 h2 => ?_, fun _ => ?_, fun _ h2 => ?_⟩⟩
  · have q := let_cnt d
    have e : (f1.let (c : Int)).drawn = f1.drawn + (if (c : Int) = (f1.high.length : Int) then 1 else 0) := by
      show f1.drawn + (if isCh f1.high.length ((c : Int) + 1) = true then 0 else 1) = _
      by_cases a : c < f.high.length
      · rw [isCh_true (by omega) (by omega), if_pos rfl, if_neg (by omega)]
      · have : isCh f1.high.length ((c : Int) + 1) = false := by unfold isCh; simp; omega
        rw [this, if_neg (by simp), if_pos (by omega)]
    show (f1.let (c : Int)).drawn = _
    rw [e, m.dr]
    show _ = f.drawn + cnt (letH f1.high (c : Int)) - cnt f.high
    rw [q, if_neg (by omega : ¬ (c : Int) = 0)]
    omega
  · rw [at' i h2, if_neg (by omega), if_neg (by omega)]
    exact m.low i (by omega) h2
  · rw [at' _ (by omega), if_pos (by omega)]
  · rw [at' _ h2, if_neg (by omega), if_pos rfl]
structure ML (f f' : Fl) (c : Nat) : Prop where
  wt : Wt f f'
  dr : f'.drawn = f.drawn
  hig : ∀ i, c ≤ i → i < f.high.length → f'.hi i = f.hi i
  bot : 1 ≤ c → f'.hi (c - 1) = false
  prv : f.hi (c - 1) = true → 2 ≤ c → f'.hi (c - 2) = true
theorem ML.stay {f : Fl} {c : Nat} (h : c = 0 ∨ f.hi (c - 1) = false) : ML f f c :=
  ⟨Wt.refl f, rfl, fun _ _ _ => rfl, fun hc => by rcases h with h | h; omega; exact h, fun h1 h2 => by rcases h with h | h; omega; rw [h] at h1; cases h1⟩
theorem ML.step {f f1 : Fl} {c : Nat} (c1 : 1 ≤ c) (c2 : c ≤ f.high.length) (h : f.hi (c - 1) = true) (m : ML f f1 (c - 1)) : letOut f1.high ((c : Int) - 1) = .done ∧ ML f (f1.let ((c : Int) - 1)) c := by
  have ln := m.wt.ln
  have l0 : f1.hi (c - 1) = true := by rw [m.hig (c - 1) (by omega) (by omega)]; exact h
  have ec : (c : Int) - 1 = ((c - 1 : Nat) : Int) := by omega
  have d : letOut f1.high ((c : Int) - 1) = .done := by
    unfold letOut
    rw [if_neg (by omega)]
    have g1 : canGive f1.high ((c : Int) - 1 + 1) = true := by
      unfold canGive
      rw [isCh_true (by omega) (by omega), if_pos rfl, show ((c : Int) - 1 + 1 - 1).toNat = c - 1 by omega]
      exact l0
    have g2 : canTake f1.high ((c : Int) - 1) = true := by
      unfold canTake
      by_cases a : 2 ≤ c
      · rw [isCh_true (by omega) (by omega), if_pos rfl, show ((c : Int) - 1 - 1).toNat = c - 1 - 1 by omega]
        show (!f1.hi (c - 1 - 1)) = true
        rw [m.bot (by omega)]; rfl
      · have : isCh f1.high.length ((c : Int) - 1) = false := by unfold isCh; simp; omega
        rw [this]; simp
    rw [g1, g2]; rfl
  have at' : ∀ i, i < f.high.length → (f1.let ((c : Int) - 1)).hi i = if i + 1 = c - 1 then true else if i = c - 1 then false else f1.hi i := fun i hi => by
    rw [ec]; exact letH_at (by omega) (by omega)
  refine ⟨d, ⟨m.wt.let _, ?_, fun i h1 h2 => ?_, fun _ => ?_, fun _ h2 => ?_⟩⟩
  · show f1.drawn + (if isCh f1.high.length ((c : Int) - 1 + 1) = true then 0 else 1) = _
    rw [isCh_true (by omega) (by omega), if_pos rfl, m.dr]; omega
  · rw [at' i h2, if_neg (by omega), if_neg (by omega)]
    exact m.hig i (by omega) h2
  · rw [at' _ (by omega), if_neg (by omega), if_pos rfl]
  · rw [at' _ (by omega), if_pos (by omega)]
end Lf

namespace Lf
theorem idx_set {α : Type} [BEq α] [LawfulBEq α] {x y : α} (h : y ≠ x) : ∀ (n k : Nat), k < n → ((List.replicate n y).set k x).idxOf x = k
  | 0, _, h => by omega
  | n + 1, 0, _ => by rw [List.replicate_succ, List.set_cons_zero, List.idxOf_cons_self]
  | n + 1, k + 1, hk => by
    rw [List.replicate_succ, List.set_cons_succ, List.idxOf_cons, show (y == x) = false from beq_false_of_ne h, cond_false, idx_set h n k (by omega)]
theorem mem_set {α : Type} {x y : α} {n k : Nat} (hk : k < n) : x ∈ (List.replicate n y).set k x := by
  rw [List.mem_iff_getElem?]
  exact ⟨k, by rw [List.getElem?_set_self (by simpa using hk)]⟩
def inC (n : Nat) (b : Int) (c : Nat) : List (Option Int) := (List.replicate n none).set (c - 1) (some b)
structure InC (f : Fl) (b : Int) (c : Nat) : Prop where
  nu : b ∉ f.up
  nd : b ∉ f.down
  ins : f.inside = inC f.high.length b c
  c1 : 1 ≤ c
  c2 : c ≤ f.high.length
theorem InC.place {f : Fl} {b : Int} {c : Nat} (I : InC f b c) : f.place? b = some (c : Int) := by
  unfold Fl.place?
  have c1 := I.c1
  have c2 := I.c2
  rw [if_neg I.nu, if_neg I.nd, I.ins, inC, if_pos (mem_set (by omega)), idx_set (by simp) _ _ (by omega)]
  congr 1; omega
theorem InC.row {f : Fl} {b : Int} {c : Nat} (I : InC f b c) : b ∉ f.row (f.side b) := by
  unfold Fl.row; split
  · exact I.nd
  · exact I.nu
theorem inC_none {n c k : Nat} {b : Int} (h : k ≠ c - 1) : (inC n b c).getD k none = none := by
  unfold inC
  rw [List.getD_eq_getElem?_getD, List.getElem?_set_ne (fun z => h z.symm), List.getElem?_replicate]
  split <;> rfl
theorem inC_leave {n c : Nat} {b : Int} : (inC n b c).set (c - 1) none = List.replicate n none := by
  unfold inC
  rw [List.set_set]
  exact List.ext_getElem? fun k => by
    rw [List.getElem?_set, List.getElem?_replicate, List.length_replicate]
    by_cases e : c - 1 = k
    · subst e; simp
    · rw [if_neg e]
theorem inC_len (n c : Nat) (b : Int) : (inC n b c).length = n := by unfold inC; simp
theorem canGive_ch {h : List Bool} {p : Nat} (h1 : 1 ≤ p) (h2 : p ≤ h.length) : canGive h (p : Int) = h.getD (p - 1) false := by
  unfold canGive; rw [isCh_true (by omega) (by omega), if_pos rfl, show ((p : Int) - 1).toNat = p - 1 by omega]
theorem canTake_ch {h : List Bool} {p : Nat} (h1 : 1 ≤ p) (h2 : p ≤ h.length) : canTake h (p : Int) = !h.getD (p - 1) false := by
  unfold canTake; rw [isCh_true (by omega) (by omega), if_pos rfl, show ((p : Int) - 1).toNat = p - 1 by omega]
theorem isCh_top (n : Nat) : isCh n ((n : Int) + 1) = false := by unfold isCh; simp
theorem isCh_nil (n : Nat) : isCh n 0 = false := by unfold isCh; simp
theorem canTake_top (h : List Bool) : canTake h ((h.length : Int) + 1) = true := by unfold canTake; rw [isCh_top]; simp
theorem canGive_nil (h : List Bool) : canGive h 0 = true := by unfold canGive; rw [isCh_nil]; simp
theorem min_up (c : Int) : min c (stepOf false c) = c := by unfold stepOf; simp; omega
theorem min_dn (c : Int) : min c (stepOf true c) = c - 1 := by unfold stepOf; simp; omega
theorem InC.leave {f : Fl} {b : Int} {c : Nat} (I : InC f b c) (s : Bool) : f.leave (c : Int) s = { f with inside := List.replicate f.high.length none } := by
  have c1 := I.c1
  have c2 := I.c2
  unfold Fl.leave
  rw [isCh_true (by omega) (by omega), if_pos rfl, I.ins, show ((c : Int) - 1).toNat = c - 1 by omega, inC_leave]
theorem InC.upMv {f : Fl} {b : Int} {c : Nat} (I : InC f b c) (sd : f.side b = false) (hc : c < f.high.length) (h1 : f.hi (c - 1) = true) (h2 : f.hi c = false) :
    f.sailOut b = .done ∧ f.sail b (c : Int) = { f with inside := inC f.high.length b (c + 1) } := by
  have c1 := I.c1
  have lv : level f.high (c : Int) = true := by
    unfold level
    rw [canGive_ch I.c1 I.c2, show ((c : Int) + 1) = ((c + 1 : Nat) : Int) by omega, canTake_ch (by omega) (by omega)]
    show (f.hi (c - 1) && !f.hi c) = true
    rw [h1, h2]; rfl
  constructor
  · unfold Fl.sailOut
    rw [I.place]
    show (if _ then _ else _) = _
    rw [if_neg (fun z => I.row z.1), sd, min_up, lv, if_neg (by simp), if_neg]
    rintro ⟨_, z⟩
    apply z
    rw [I.ins]
    unfold stepOf
    exact inC_none (by simp; omega)
  · unfold Fl.sail
    rw [I.leave, sd, show stepOf false (c : Int) = (c : Int) + 1 from rfl]
    unfold Fl.enter
    rw [isCh_true (by omega) (by show (c : Int) + 1 < (f.high.length : Int) + 1; omega), if_pos rfl, show ((c : Int) + 1 - 1).toNat = c + 1 - 1 by omega]
    rfl
theorem InC.upOut {f : Fl} {b : Int} {c : Nat} (I : InC f b c) (sd : f.side b = false) (hc : c = f.high.length) (h1 : f.hi (c - 1) = true) :
    f.sailOut b = .done ∧ f.sail b (c : Int) = { f with inside := List.replicate f.high.length none, gone := f.gone ++ [b] } := by
  have c1 := I.c1
  have lv : level f.high (c : Int) = true := by
    unfold level
    rw [canGive_ch I.c1 I.c2, hc, canTake_top, ← hc]
    show (f.hi (c - 1) && true) = true
    rw [h1]; rfl
  constructor
  · unfold Fl.sailOut
    rw [I.place]
    show (if _ then _ else _) = _
    rw [if_neg (fun z => I.row z.1), sd, min_up, lv, if_neg (by simp), if_neg]
    rintro ⟨z, _⟩
    unfold stepOf at z
    simp only [Bool.false_eq_true, if_false, hc] at z
    rw [isCh_top] at z; cases z
  · unfold Fl.sail
    rw [I.leave, sd, show stepOf false (c : Int) = (c : Int) + 1 from rfl, hc]
    unfold Fl.enter
    rw [show isCh _ ((f.high.length : Int) + 1) = false from isCh_top _, if_neg (by simp)]
theorem InC.dnMv {f : Fl} {b : Int} {c : Nat} (I : InC f b c) (sd : f.side b = true) (hc : 2 ≤ c) (h1 : f.hi (c - 2) = true) (h2 : f.hi (c - 1) = false) :
    f.sailOut b = .done ∧ f.sail b (c : Int) = { f with inside := inC f.high.length b (c - 1) } := by
  have c2 := I.c2
  have lv : level f.high ((c : Int) - 1) = true := by
    unfold level
    rw [show (c : Int) - 1 = ((c - 1 : Nat) : Int) by omega, canGive_ch (by omega) (by omega), show ((c - 1 : Nat) : Int) + 1 = (c : Int) by omega, canTake_ch I.c1 I.c2]
    show (f.hi (c - 1 - 1) && !f.hi (c - 1)) = true
    rw [show c - 1 - 1 = c - 2 by omega, h1, h2]; rfl
  constructor
  · unfold Fl.sailOut
    rw [I.place]
    show (if _ then _ else _) = _
    rw [if_neg (fun z => I.row z.1), sd, min_dn, lv, if_neg (by simp), if_neg]
    rintro ⟨_, z⟩
    apply z
    rw [I.ins]
    unfold stepOf
    exact inC_none (by simp; omega)
  · unfold Fl.sail
    rw [I.leave, sd, show stepOf true (c : Int) = (c : Int) - 1 from rfl]
    unfold Fl.enter
    rw [isCh_true (by omega) (by show (c : Int) - 1 < (f.high.length : Int) + 1; omega), if_pos rfl, show ((c : Int) - 1 - 1).toNat = c - 1 - 1 by omega]
    rfl
theorem InC.dnOut {f : Fl} {b : Int} {c : Nat} (I : InC f b c) (sd : f.side b = true) (hc : c = 1) (h2 : f.hi 0 = false) :
    f.sailOut b = .done ∧ f.sail b (c : Int) = { f with inside := List.replicate f.high.length none, gone := f.gone ++ [b] } := by
  have c2 := I.c2
  subst hc
  have lv : level f.high 0 = true := by
    unfold level
    rw [canGive_nil, show (0 : Int) + 1 = ((1 : Nat) : Int) by omega, canTake_ch I.c1 I.c2]
    show (true && !f.hi 0) = true
    rw [h2]; rfl
  constructor
  · unfold Fl.sailOut
    rw [I.place]
    show (if _ then _ else _) = _
    rw [if_neg (fun z => I.row z.1), sd, min_dn, show ((1 : Nat) : Int) - 1 = 0 by omega, lv, if_neg (by simp), if_neg]
    rintro ⟨z, _⟩
    unfold stepOf at z
    simp only [if_true] at z
    rw [show ((1 : Nat) : Int) - 1 = 0 by omega, isCh_nil] at z; cases z
  · unfold Fl.sail
    rw [I.leave, sd, show stepOf true ((1 : Nat) : Int) = 0 from rfl]
    unfold Fl.enter
    rw [isCh_nil, if_neg (by simp)]
theorem up_in {f : Fl} {b : Int} {s : List Int} (sd : f.side b = false) (hu : f.up = b :: s) (hi : f.inside = List.replicate f.high.length none) (n1 : 1 ≤ f.high.length) (h : f.hi 0 = false) :
    f.place? b = some 0 ∧ f.sailOut b = .done ∧ f.sail b 0 = { f with up := s, inside := inC f.high.length b 1 } := by
  have pl : f.place? b = some 0 := by unfold Fl.place?; rw [if_pos (by rw [hu]; simp)]
  have lv : level f.high 0 = true := by
    unfold level
    rw [canGive_nil, show (0 : Int) + 1 = ((1 : Nat) : Int) by omega, canTake_ch (by omega) n1]
    show (true && !f.hi 0) = true
    rw [h]; rfl
  refine ⟨pl, ?_, ?_⟩
  · unfold Fl.sailOut
    rw [pl]
    show (if _ then _ else _) = _
    rw [sd, if_neg (by rintro ⟨_, z⟩; apply z; show f.up.head? = _; rw [hu]; rfl), min_up, lv, if_neg (by simp), if_neg]
    rintro ⟨_, z⟩
    apply z
    rw [hi, List.getD_eq_getElem?_getD, List.getElem?_replicate]
    split <;> rfl
  · unfold Fl.sail Fl.leave Fl.enter
    rw [isCh_nil, sd]
    simp only [Bool.false_eq_true, if_false]
    unfold stepOf
    simp only [Bool.false_eq_true, if_false]
    rw [isCh_true (by omega) (by omega), if_pos rfl, hu, hi]
    rfl
theorem dn_in {f : Fl} {b : Int} {s : List Int} (sd : f.side b = true) (nu : b ∉ f.up) (hd : f.down = b :: s) (hi : f.inside = List.replicate f.high.length none) (n1 : 1 ≤ f.high.length) (h : f.hi (f.high.length - 1) = true) :
    f.place? b = some ((f.high.length : Int) + 1) ∧ f.sailOut b = .done ∧ f.sail b ((f.high.length : Int) + 1) = { f with down := s, inside := inC f.high.length b f.high.length } := by
  have pl : f.place? b = some ((f.high.length : Int) + 1) := by unfold Fl.place?; rw [if_neg nu, if_pos (by rw [hd]; simp)]
  have lv : level f.high (f.high.length : Int) = true := by
    unfold level
    rw [canGive_ch n1 (by omega), canTake_top]
    show (f.hi (f.high.length - 1) && true) = true
    rw [h]; rfl
  refine ⟨pl, ?_, ?_⟩
  · unfold Fl.sailOut
    rw [pl]
    show (if _ then _ else _) = _
    rw [sd, if_neg (by rintro ⟨_, z⟩; apply z; show f.down.head? = _; rw [hd]; rfl), min_dn, show (f.high.length : Int) + 1 - 1 = f.high.length by omega, lv, if_neg (by simp), if_neg]
    rintro ⟨_, z⟩
    apply z
    rw [hi, List.getD_eq_getElem?_getD, List.getElem?_replicate]
    split <;> rfl
  · unfold Fl.sail Fl.leave Fl.enter
    rw [isCh_top, sd]
    simp only [Bool.false_eq_true, if_false, if_true]
    unfold stepOf
    simp only [if_true]
    rw [show (f.high.length : Int) + 1 - 1 = f.high.length by omega, isCh_true (by omega) (by omega), if_pos rfl, hd, hi]
    unfold inC
    rw [show ((f.high.length : Int) - 1).toNat = f.high.length - 1 by omega]
    rfl
end Lf

namespace Lf
def wait (S : List Bool) (d : Bool) (i : Nat) : List Int := ((List.range' i (S.length - i)).filter fun j => S.getD j false == d).map fun (j : Nat) => (j : Int)
theorem wait_cons {S : List Bool} {i : Nat} (d : Bool) (h : i < S.length) : wait S d i = if S.getD i false == d then (i : Int) :: wait S d (i + 1) else wait S d (i + 1) := by
  unfold wait
  rw [show S.length - i = (S.length - (i + 1)) + 1 by omega, List.range'_succ, List.filter_cons]
  split <;> rfl
theorem wait_ge {S : List Bool} {d : Bool} {i : Nat} {b : Int} (h : b ∈ wait S d i) : (i : Int) ≤ b ∧ b < S.length := by
  unfold wait at h
  obtain ⟨j, hj, rfl⟩ := List.mem_map.mp h
  have := List.mem_range'_1.mp (List.mem_filter.mp hj).1
  omega
theorem wait_snoc (S : List Bool) (x d : Bool) : wait (S ++ [x]) d 0 = wait S d 0 ++ if x == d then [(S.length : Int)] else [] := by
  unfold wait
  rw [List.length_append, List.length_singleton, Nat.sub_zero, Nat.sub_zero, List.range'_1_concat, List.filter_append, List.map_append, Nat.zero_add]
  congr 1
  · congr 1
    refine List.filter_congr fun j hj => ?_
    have := List.mem_range'_1.mp hj
    rw [List.getD_eq_getElem?_getD, List.getD_eq_getElem?_getD, List.getElem?_append_left (by omega)]
  · have e : (S ++ [x]).getD S.length false = x := by simp [List.getD_eq_getElem?_getD]
    rw [List.filter_cons, e]
    split <;> rfl
def nums (i : Nat) : List Int := (List.range i).map fun (j : Nat) => (j : Int)
theorem nums_succ (i : Nat) : nums (i + 1) = nums i ++ [(i : Int)] := by unfold nums; rw [List.range_succ, List.map_append]; rfl
structure Pl (h0 S : List Bool) (f : Fl) (i : Nat) : Prop where
  n1 : 1 ≤ h0.length
  sd : f.sides = S
  up : f.up = wait S false i
  dn : f.down = wait S true i
  ins : f.inside = List.replicate h0.length none
  gn : f.gone = nums i
  hg : f.high = aft h0 (S.take i)
  dr : f.drawn = costOf h0 (S.take i)
theorem Pl.len {h0 S : List Bool} {f : Fl} {i : Nat} (p : Pl h0 S f i) : f.high.length = h0.length := by rw [p.hg, aft_len]
theorem take_snoc {S : List Bool} {i : Nat} (h : i < S.length) : S.take (i + 1) = S.take i ++ [S.getD i false] := by
  rw [List.take_add_one, List.getElem?_eq_getElem h, List.getD_eq_getElem?_getD, List.getElem?_eq_getElem h]; rfl
def comes (h0 S : List Bool) : Fl := S.foldl Fl.come (Fl.new h0)
theorem comes_snoc (h0 S : List Bool) (x : Bool) : comes h0 (S ++ [x]) = (comes h0 S).come x := by unfold comes; rw [List.foldl_append]; rfl
theorem comes_is (h0 : List Bool) (S : List Bool) : comes h0 S = { Fl.new h0 with sides := S, up := wait S false 0, down := wait S true 0 } := by
  have k : ∀ r : List Bool, comes h0 r.reverse = { Fl.new h0 with sides := r.reverse, up := wait r.reverse false 0, down := wait r.reverse true 0 } := by
    intro r
    induction r with
    | nil => rfl
    | cons x r ih =>
      rw [List.reverse_cons, comes_snoc, ih, wait_snoc, wait_snoc]
      unfold Fl.come
      cases x <;> simp [List.length_reverse]
  have := k S.reverse
  rwa [List.reverse_reverse] at this
theorem Pl.start {h0 S : List Bool} (h : 1 ≤ h0.length) : Pl h0 S (comes h0 S) 0 := by
  rw [comes_is]
  exact ⟨h, rfl, rfl, rfl, rfl, rfl, rfl, rfl⟩
theorem hi_ext {h h' : List Bool} (l : h.length = h'.length) (e : ∀ i, i < h.length → h.getD i false = h'.getD i false) : h = h' := by
  refine List.ext_getElem l fun i h1 h2 => ?_
  have := e i h1
  rw [List.getD_eq_getElem?_getD, List.getD_eq_getElem?_getD, List.getElem?_eq_getElem h1, List.getElem?_eq_getElem h2] at this
  exact this
structure UI (f0 f : Fl) (b : Int) (c : Nat) (s : List Int) : Prop where
  inc : InC f b c
  ln : f.high.length = f0.high.length
  sd : f.sides = f0.sides
  up : f.up = s
  dn : f.down = f0.down
  gn : f.gone = f0.gone
  his : ∀ j, j + 1 < c → f.hi j = true
  lo : f.hi (c - 1) = false
  dr : f.drawn = f0.drawn + cnt f.high - cnt (f0.high.drop 1)
theorem UI.start {h0 S : List Bool} {f0 f1 : Fl} {i : Nat} (p : Pl h0 S f0 i) (hi : i < S.length) (hs : S.getD i false = false) (m : ML f0 f1 1) :
    f1.place? (i : Int) = some 0 ∧ f1.sailOut (i : Int) = .done ∧ UI f0 (f1.sail (i : Int) 0) (i : Int) 1 (wait S false (i + 1)) := by
  have pl := p.len
  have n1 := p.n1
  have ln := m.wt.ln
  have u1 : f1.up = (i : Int) :: wait S false (i + 1) := by rw [m.wt.up, p.up, wait_cons _ hi, hs]; rfl
  have d1 : f1.down = wait S true (i + 1) := by rw [m.wt.dn, p.dn, wait_cons _ hi, hs]; rfl
  have sd : f1.side (i : Int) = false := by unfold Fl.side; rw [m.wt.sd, p.sd]; exact hs
  obtain ⟨e1, e2, e3⟩ := up_in sd u1 (by rw [m.wt.ins, p.ins, ln, pl]) (by omega) (m.bot (by omega))
  refine ⟨e1, e2, ?_⟩
  rw [e3]
  refine ⟨⟨fun z => ?_, fun z => ?_, rfl, Nat.le_refl _, by show 1 ≤ f1.high.length; omega⟩, ln, m.wt.sd, rfl, m.wt.dn, m.wt.gn, fun j hj => by omega, m.bot (by omega), ?_⟩
  · have := wait_ge (show (i : Int) ∈ wait S false (i + 1) from z); omega
  · have z : (i : Int) ∈ f1.down := z
    rw [d1] at z
    have := wait_ge z; omega
  · show f1.drawn = f0.drawn + cnt f1.high - cnt (f0.high.drop 1)
    have e : f1.high = false :: f0.high.drop 1 := by
      refine hi_ext (by rw [List.length_cons, List.length_drop]; omega) fun j hj => ?_
      cases j with
      | zero => exact m.bot (by omega)
      | succ j =>
        have := m.hig (j + 1) (by omega) (by omega)
        show f1.hi (j + 1) = _
        rw [this]
        unfold Fl.hi
        rw [List.getD_cons_succ, List.getD_eq_getElem?_getD, List.getD_eq_getElem?_getD, List.getElem?_drop, Nat.add_comm 1 j]
    rw [m.dr, e]
    unfold cnt
    simp
theorem hi_all {f : Fl} {b : Bool} (h : ∀ j, j < f.high.length → f.hi j = b) : f.high = List.replicate f.high.length b := by
  refine hi_ext (by simp) fun j hj => ?_
  have := h j hj
  unfold Fl.hi at this
  rw [this, List.getD_eq_getElem?_getD, List.getElem?_replicate, if_pos hj]; rfl
theorem UI.step {h0 S : List Bool} {f0 f f1 : Fl} {i c : Nat} (p : Pl h0 S f0 i) (hi : i < S.length) (hs : S.getD i false = false) (u : UI f0 f (i : Int) c (wait S false (i + 1))) (m : MH f f1 c) :
    f1.place? (i : Int) = some (c : Int) ∧ f1.sailOut (i : Int) = .done ∧ (c < h0.length → UI f0 (f1.sail (i : Int) (c : Int)) (i : Int) (c + 1) (wait S false (i + 1))) ∧ (c = h0.length → Pl h0 S (f1.sail (i : Int) (c : Int)) (i + 1)) := by
  have pl := p.len
  have ln := m.wt.ln
  have ul := u.ln
  have c1 := u.inc.c1
  have c2 := u.inc.c2
  have I1 : InC f1 (i : Int) c := ⟨by rw [m.wt.up]; exact u.inc.nu, by rw [m.wt.dn]; exact u.inc.nd, by rw [m.wt.ins, u.inc.ins, ln], c1, by omega⟩
  have sd : f1.side (i : Int) = false := by unfold Fl.side; rw [m.wt.sd, u.sd, p.sd]; exact hs
  have top := m.top c2
  have dr : f1.drawn = f0.drawn + cnt f1.high - cnt (f0.high.drop 1) := by rw [m.dr, u.dr]; omega
  by_cases hc : c < f1.high.length
  · obtain ⟨e1, e2⟩ := I1.upMv sd hc top (m.nxt u.lo (by omega))
    refine ⟨I1.place, e1, fun _ => ?_, fun z => by omega⟩
    rw [e2]
    refine ⟨⟨I1.nu, I1.nd, rfl, by omega, by show c + 1 ≤ f1.high.length; omega⟩, by show f1.high.length = _; omega, m.wt.sd.trans u.sd, m.wt.up.trans u.up, m.wt.dn.trans u.dn, m.wt.gn.trans u.gn, fun j hj => ?_, m.nxt u.lo (by omega), dr⟩
    show f1.hi j = true
    by_cases e : j + 1 = c
    · rw [show j = c - 1 by omega]; exact top
    · rw [m.low j (by omega) (by omega)]; exact u.his j (by omega)
  · have hcn : c = f1.high.length := by omega
    obtain ⟨e1, e2⟩ := I1.upOut sd hcn top
    refine ⟨I1.place, e1, fun z => by omega, fun _ => ?_⟩
    rw [e2]
    have al : f1.high = List.replicate f1.high.length true := hi_all fun j hj => by
      by_cases e : j + 1 = c
      · rw [show j = c - 1 by omega]; exact top
      · rw [m.low j (by omega) (by omega)]; exact u.his j (by omega)
    refine ⟨p.n1, (m.wt.sd.trans u.sd).trans p.sd, m.wt.up.trans u.up, ?_, by show List.replicate f1.high.length none = _; rw [ln, ul, pl], ?_, ?_, ?_⟩
    · show f1.down = _
      rw [m.wt.dn, u.dn, p.dn, wait_cons _ hi, hs]; rfl
    · show f1.gone ++ [(i : Int)] = _
      rw [m.wt.gn, u.gn, p.gn, nums_succ]
    · show f1.high = _
      rw [take_snoc hi, hs, aft_last, al, ln, ul, pl]; rfl
    · show f1.drawn = _
      rw [dr, take_snoc hi, hs, costOf_snoc, p.dr, ← p.hg]
      have e3 : cnt f1.high = f1.high.length := by rw [al]; unfold cnt; simp
      rw [e3]
      unfold cost1
      rw [if_neg (by simp)]
      have := cnt_low (f0.high.drop 1)
      rw [List.length_drop] at this
      have := p.n1
      omega
structure DI (f0 f : Fl) (b : Int) (c : Nat) (s : List Int) : Prop where
  inc : InC f b c
  ln : f.high.length = f0.high.length
  sd : f.sides = f0.sides
  up : f.up = f0.up
  dn : f.down = s
  gn : f.gone = f0.gone
  los : ∀ j, c ≤ j → j < f.high.length → f.hi j = false
  hi : f.hi (c - 1) = true
  dr : f.drawn = f0.drawn + cost1 f0.high true
theorem DI.start {h0 S : List Bool} {f0 f1 : Fl} {i : Nat} (p : Pl h0 S f0 i) (hi : i < S.length) (hs : S.getD i false = true) (m : MH f0 f1 h0.length) :
    f1.place? (i : Int) = some ((h0.length : Int) + 1) ∧ f1.sailOut (i : Int) = .done ∧ DI f0 (f1.sail (i : Int) ((h0.length : Int) + 1)) (i : Int) h0.length (wait S true (i + 1)) := by
  have pl := p.len
  have n1 := p.n1
  have ln := m.wt.ln
  have u1 : f1.up = wait S false (i + 1) := by rw [m.wt.up, p.up, wait_cons _ hi, hs]; rfl
  have d1 : f1.down = (i : Int) :: wait S true (i + 1) := by rw [m.wt.dn, p.dn, wait_cons _ hi, hs]; rfl
  have sd : f1.side (i : Int) = true := by unfold Fl.side; rw [m.wt.sd, p.sd]; exact hs
  have nu : (i : Int) ∉ f1.up := fun z => by rw [u1] at z; have := wait_ge z; omega
  have ll : f1.high.length = h0.length := by omega
  have top := m.top (by omega)
  obtain ⟨e1, e2, e3⟩ := dn_in sd nu d1 (by rw [m.wt.ins, p.ins, ll]) (by omega) (by rw [ll]; exact top)
  rw [ll] at e1 e3
  refine ⟨e1, e2, ?_⟩
  rw [e3]
  refine ⟨⟨nu, fun z => ?_, by show _ = inC f1.high.length _ _; rw [ll], n1, by show h0.length ≤ f1.high.length; omega⟩, ln, m.wt.sd, m.wt.up, rfl, m.wt.gn, fun j h1 h2 => ?_, top, ?_⟩
  · have := wait_ge (show (i : Int) ∈ wait S true (i + 1) from z); omega
  · have h2 : j < f1.high.length := h2
    omega
  · show f1.drawn = _
    rw [m.dr]
    have e : f1.high = f0.high.set (h0.length - 1) true := by
      refine hi_ext (by rw [List.length_set]; omega) fun j hj => ?_
      rw [List.getD_eq_getElem?_getD (l := f0.high.set _ _), List.getElem?_set]
      by_cases z : h0.length - 1 = j
      · rw [if_pos z, if_pos (by omega), ← z]; exact top
      · rw [if_neg z, ← List.getD_eq_getElem?_getD]
        exact m.low j (by omega) (by omega)
    have a : f0.high[h0.length - 1]? = some (f0.hi (h0.length - 1)) := getD_some (by omega) rfl
    rw [e, cnt_set true a]
    have gl : f0.high.getLastD true = f0.hi (h0.length - 1) := by
      have ne : f0.high ≠ [] := fun z => by rw [z] at pl; simp at pl; omega
      rw [List.getLastD_eq_getLast?, List.getLast?_eq_getElem?, pl, a]; rfl
    unfold cost1
    rw [if_pos rfl, gl]
    cases f0.hi (h0.length - 1) <;> simp <;> omega
theorem DI.step {h0 S : List Bool} {f0 f f1 : Fl} {i c : Nat} (p : Pl h0 S f0 i) (hi : i < S.length) (hs : S.getD i false = true) (u : DI f0 f (i : Int) c (wait S true (i + 1))) (m : ML f f1 c) :
    f1.place? (i : Int) = some (c : Int) ∧ f1.sailOut (i : Int) = .done ∧ (2 ≤ c → DI f0 (f1.sail (i : Int) (c : Int)) (i : Int) (c - 1) (wait S true (i + 1))) ∧ (c = 1 → Pl h0 S (f1.sail (i : Int) (c : Int)) (i + 1)) := by
  have pl := p.len
  have ln := m.wt.ln
  have ul := u.ln
  have c1 := u.inc.c1
  have c2 := u.inc.c2
  have I1 : InC f1 (i : Int) c := ⟨by rw [m.wt.up]; exact u.inc.nu, by rw [m.wt.dn]; exact u.inc.nd, by rw [m.wt.ins, u.inc.ins, ln], c1, by omega⟩
  have sd : f1.side (i : Int) = true := by unfold Fl.side; rw [m.wt.sd, u.sd, p.sd]; exact hs
  have bot := m.bot c1
  have dr : f1.drawn = f0.drawn + cost1 f0.high true := by rw [m.dr, u.dr]
  have los : ∀ j, c - 1 ≤ j → j < f1.high.length → f1.hi j = false := fun j h1 h2 => by
    by_cases e : j = c - 1
    · rw [e]; exact bot
    · rw [m.hig j (by omega) (by omega)]; exact u.los j (by omega) (by omega)
  by_cases hc : 2 ≤ c
  · obtain ⟨e1, e2⟩ := I1.dnMv sd hc (m.prv u.hi hc) bot
    refine ⟨I1.place, e1, fun _ => ?_, fun z => by omega⟩
    rw [e2]
    exact ⟨⟨I1.nu, I1.nd, rfl, by omega, by show c - 1 ≤ f1.high.length; omega⟩, by show f1.high.length = _; omega, m.wt.sd.trans u.sd, m.wt.up.trans u.up, m.wt.dn.trans u.dn, m.wt.gn.trans u.gn, los, m.prv u.hi hc, dr⟩
  · have hc1 : c = 1 := by omega
    obtain ⟨e1, e2⟩ := I1.dnOut sd hc1 (by rw [hc1] at bot; exact bot)
    refine ⟨I1.place, e1, fun z => by omega, fun _ => ?_⟩
    rw [e2]
    have al : f1.high = List.replicate f1.high.length false := hi_all fun j hj => los j (by omega) hj
    refine ⟨p.n1, (m.wt.sd.trans u.sd).trans p.sd, ?_, m.wt.dn.trans u.dn, by show List.replicate f1.high.length none = _; rw [ln, ul, pl], ?_, ?_, ?_⟩
    · show f1.up = _
      rw [m.wt.up, u.up, p.up, wait_cons _ hi, hs]; rfl
    · show f1.gone ++ [(i : Int)] = _
      rw [m.wt.gn, u.gn, p.gn, nums_succ]
    · show f1.high = _
      rw [take_snoc hi, hs, aft_last, al, ln, ul, pl]; rfl
    · show f1.drawn = _
      rw [dr, take_snoc hi, hs, costOf_snoc, p.dr, ← p.hg]
end Lf

namespace Lf
/-- what the side d costs from a stand, and the least behind it -/
def keyS (hh : List Bool) (p : Int) (u w : Nat) (l : Option Bool) (r : Int) (d : Bool) : Int := cost1 hh d + rst hh.length p (uB u d) (wB w d) d (rB l r d)
def pick (f : Bool → Int) : List Bool → Bool
  | [] => false
  | a :: r => r.foldl (fun x y => if f y < f x then y else x) a
def bstD (hh : List Bool) (p : Int) (u w : Nat) (l : Option Bool) (r : Int) : Bool := pick (keyS hh p u w l r) (sidesS u w l r p)
def bstF (p : Int) : Nat → List Bool → Nat → Nat → Option Bool → Int → List Bool
  | 0, _, _, _, _, _ => []
  | m + 1, hh, u, w, l, r => bstD hh p u w l r :: bstF p m (List.replicate hh.length (!bstD hh p u w l r)) (uB u (bstD hh p u w l r)) (wB w (bstD hh p u w l r)) (some (bstD hh p u w l r)) (rB l r (bstD hh p u w l r))
def bst (p : Int) (hh : List Bool) (u w : Nat) (l : Option Bool) (r : Int) : List Bool := bstF p (u + w) hh u w l r
theorem bst_zero (p : Int) (hh : List Bool) (l : Option Bool) (r : Int) : bst p hh 0 0 l r = [] := rfl
theorem sides_cases (u w : Nat) (l : Option Bool) (r p : Int) : sidesS u w l r p = [] ∨ sidesS u w l r p = [true] ∨ sidesS u w l r p = [false] ∨ sidesS u w l r p = [true, false] := by
  unfold sidesS
  cases h1 : mayS u w l r p true <;> cases h2 : mayS u w l r p false <;> simp [h1, h2]
theorem bstD_mem {hh : List Bool} {p : Int} {u w : Nat} {l : Option Bool} {r : Int} (h : u + w ≠ 0) : bstD hh p u w l r ∈ sidesS u w l r p := by
  unfold bstD
  rcases sides_cases u w l r p with e | e | e | e
  · exact absurd e (sides_ne h)
  · rw [e]; simp [pick]
  · rw [e]; simp [pick]
  · rw [e]; simp only [pick, List.foldl_cons, List.foldl_nil]; split <;> simp
theorem bst_eq (p : Int) {hh : List Bool} {u w : Nat} {l : Option Bool} {r : Int} (h : u + w ≠ 0) : bst p hh u w l r = bstD hh p u w l r :: bst p (List.replicate hh.length (!bstD hh p u w l r)) (uB u (bstD hh p u w l r)) (wB w (bstD hh p u w l r)) (some (bstD hh p u w l r)) (rB l r (bstD hh p u w l r)) := by
  have hm := may_pos (sides_mem (bstD_mem (hh := hh) (l := l) (r := r) (p := p) h))
  unfold bst
  cases e : u + w with
  | zero => exact absurd e h
  | succ m =>
    have e2 : uB u (bstD hh p u w l r) + wB w (bstD hh p u w l r) = m := by omega
    rw [e2, bstF]
end Lf

set_option Elab.async false
set_option linter.all false
set_option maxRecDepth 100000
namespace LX
open PySem PySem.Spec PyProof.Rows L2
section
variable {P : Program} {w : World} {K : PySem.W.Frag} {mg : Str → Option Value} {base : Heap} {N : List Str} {qual : Str} {scope : Scope} {f : Addr} {cd : Value} {A : Around} {outer : List Env} {s : Shared} {H : Hp} {E : XK}
theorem own_body : Own (bodyCx P w K mg base N qual scope f cd A outer s H E) := ⟨rfl, rfl, rfl⟩
theorem passB : PassesX (CXe P w) (bodyCx P w K mg base N qual scope f cd A outer s H E) (fun _ => E) := passX own_cx
theorem raiseB : RaisesX (bodyCx P w K mg base N qual scope f cd A outer s H E) (fun _ => E) := raiseX own_cx
theorem ownB : PassesOwn (model P w) (bodyCx P w K mg base N qual scope f cd A outer s H E).A (bodyCx P w K mg base N qual scope f cd A outer s H E).env (bodyCx P w K mg base N qual scope f cd A outer s H E).xe := ownX own_cx
end
theorem passF {P : Program} {w : World} {X : Cx} : PassesX (CXe P w) X (fun _ _ _ _ => False) := fun _ _ _ _ _ _ _ h => by
  obtain ⟨_, _, _, _, _, _, _, _, _, _, _, _, _, _, he⟩ := h
  exact he.elim
end LX
namespace LX
open PySem PySem.Spec PyProof.Rows L2
theorem cx_body {P : Program} {w : World} {K : PySem.W.Frag} {mg : Str → Option Value} {base : Heap} {N : List Str} {qual : Str} {scope : Scope} {f : Addr} {cd : Value} {A : Around} {outer : List Env} {s : Shared} {H : Hp} {E : XK} : (bodyCx P w K mg base N qual scope f cd A outer s H E).K = K := rfl
theorem cx_blk {X : Cx} {scope : Scope} {cl : List (Str × Addr)} {C : Addr} {N : List Str} {s : Shared} {H : Hp} {fp : List Addr} : (blkCx X scope cl C N s H fp).K = X.K := rfl
theorem cx_try {X : Cx} {pins : List (Addr × Obj)} {E : L2.St → XK} : (tryCx X pins E).K = X.K := rfl
theorem cx_mark {X : Cx} {ea : Addr} {oe : Obj} {xe : Value → Shared → Prop} : (markCx X ea oe xe).K = X.K := rfl
end LX
namespace LX
open PySem PySem.Spec PyProof.Rows L2
section
variable {X : Cx} {K : PySem.W.Frag} {e o a i value l : Expr} {ta tv ti te : TE} {tg : Expr} {f : Str} {pos pos' tpos p2 : Pos}
theorem eu_fldK (hK : X.K = K) (he : PE X e ta) (hb : attributeBase e f X.env (eval e X.env) = eval e X.env := by rfl) : PE X (.Attribute e f pos) (tFldU K ta f) := by subst hK; exact eu_fld he hb
theorem su_fldK (hK : X.K = K) (ha : PE X o ta) (hv : PE X value tv) (hs : swapsWith value (some (.Attribute o f pos')) pos.line X.env = pure false := by rfl) : PS X (.Assign [.Attribute o f pos'] value pos) (sFldU K ta tv f) := by subst hK; exact su_fld ha hv hs
theorem su_fldaugK {op : Operator} {rd : V → V → Hp → VK → Prop} (hK : X.K = K) (ha : PE X o ta) (hv : PE X value tv) (hop : InOp X op rd) : PS X (.AugAssign (.Attribute o f tpos) op value pos) (sFldAugU K ta tv rd f) := by subst hK; exact su_fldaug ha hv hop
theorem pi_listK (hK : X.K = K) (hl : PE X l ta) : PI X tg l (iList K ta) := by subst hK; exact pi_list hl
theorem sl_listK (hK : X.K = K) : SlR X (rSlL K) := by subst hK; exact sl_list
theorem ix_listK (hK : X.K = K) : IxR X (rIxL K) := by subst hK; exact ix_list
theorem len_seqK (hK : X.K = K) : CallR X (.builtin "len") (fun xs H Q => ∃ p ys, xs = [.ref p] ∧ (SqL K H p ys ∨ SqT K H p ys) ∧ Q (.int ys.length) H) := by subst hK; exact call_len_seq
end
end LX
namespace LX
open PySem PySem.Spec PyProof.Rows L2
def rPowU : R2 := fun x y H Q => match x, y with | .int i, .int j => CPow i j ∧ 0 < i ∧ ∀ z : Int, 0 < z → Q (.int z) H | _, _ => False
end LX
namespace LX
open PySem PySem.Spec PyProof.Rows L2
inductive Res where
  | pure (c : Prop) (v : V)
  | new (c : Prop) (o : HO)
def give : Option Res → Hp → VK → Prop
  | some (.pure c v), H, Q => c ∧ Q v H
  | some (.new c o), H, Q => c ∧ ∀ l, H l = none → Q (.ref l) (upd H l o)
  | none, _, _ => False
section
variable {H : Hp} {Q : VK}
theorem give_p (c : Prop) (v : V) : give (some (.pure c v)) H Q = (c ∧ Q v H) := rfl
theorem give_n (c : Prop) (o : HO) : give (some (.new c o)) H Q = (c ∧ ∀ l, H l = none → Q (.ref l) (upd H l o)) := rfl
theorem give_0 : give none H Q = False := rfl
def addO (x y : V) (H : Hp) : Option Res := match x, y with
  | .int i, .int j => some (.pure True (.int (i + j)))
  | .str i, .str j => some (.pure (i.length + j.length ≤ sizeLine) (.str (i ++ j)))
  | .ref p, .ref q => (match H p, H q with | some (.lst xs), some (.lst zs) => some (.new (xs.length + zs.length ≤ sizeLine) (.lst (xs ++ zs))) | _, _ => none)
  | _, _ => none
theorem add_eq (x y : V) : rAddU x y H Q = give (addO x y H) H Q := by
  cases x <;> cases y <;> first
    | rfl
    | exact (true_and _).symm
    | (rename_i p q
       unfold rAddU addO
       dsimp only
       cases H p with
       | none => rfl
       | some o => cases o <;> first
         | rfl
         | (cases H q with
            | none => rfl
            | some o' => cases o' <;> rfl))
def mulO (x y : V) (H : Hp) : Option Res := match x, y with
  | .int i, .int j => some (.pure (CMul i j) (.int (i * j)))
  | .ref p, .int k => (match H p with | some (.lst xs) => some (.new (-(2 ^ 63) ≤ k ∧ k < 2 ^ 63 ∧ xs.length * k.toNat ≤ sizeLine) (.lst (List.replicate k.toNat xs).flatten)) | _ => none)
  | _, _ => none
theorem mul_eq (x y : V) : rMulU x y H Q = give (mulO x y H) H Q := by
  cases x <;> cases y <;> first
    | rfl
    | (rename_i p q
       unfold rMulU mulO
       dsimp only
       cases H p with
       | none => rfl
       | some o => cases o <;> first
         | rfl
         | (simp only [give_n, and_assoc]))
def lenO (xs : List V) (H : Hp) : Option Res := match xs with
  | [.ref p] => (match H p with | some (.lst ys) => some (.pure True (.int ys.length)) | some (.tup ys) => some (.pure True (.int ys.length)) | some (.dK ks) => some (.pure True (.int ks.length)) | _ => none)
  | [.str z] => some (.pure (z.length ≤ sizeLine) (.int z.length))
  | _ => none
theorem len_eq (xs : List V) : lenU xs H Q = give (lenO xs H) H Q := by
  unfold lenU lenO
  rcases xs with _ | ⟨x, _ | ⟨y, r⟩⟩
  · rfl
  · cases x <;> first
      | rfl
      | (rename_i p
         dsimp only
         cases H p with
         | none => rfl
         | some o => cases o <;> first | rfl | exact (true_and _).symm)
  · cases x <;> rfl
def listO (xs : List V) (H : Hp) : Option Res := match xs with
  | [.ref p] => (match H p with | some (.lst ys) => some (.new True (.lst ys)) | some (.tup ys) => some (.new True (.lst ys)) | _ => none)
  | _ => none
theorem list_eq (xs : List V) : listU xs H Q = give (listO xs H) H Q := by
  unfold listU listO
  rcases xs with _ | ⟨x, _ | ⟨y, r⟩⟩
  · rfl
  · cases x <;> first
      | rfl
      | (rename_i p
         dsimp only
         cases H p with
         | none => rfl
         | some o => cases o <;> first | rfl | exact (true_and _).symm)
  · cases x <;> rfl
def intO (xs : List V) : Option Res := match xs with
  | [.int i] => some (.pure True (.int i))
  | [.bl k] => some (.pure True (.int (if k then 1 else 0)))
  | _ => none
theorem int_eq (xs : List V) : intU xs H Q = give (intO xs) H Q := by
  unfold intU intO
  rcases xs with _ | ⟨x, _ | ⟨y, r⟩⟩
  · rfl
  · cases x <;> first | rfl | exact (true_and _).symm
  · cases x <;> rfl
def oneR : Option V → Option Res
  | some v => some (.pure True v)
  | none => none
def ixO (x y : V) (H : Hp) : Option Res := match x, y with
  | .ref p, .int i => (match H p with | some (.lst xs) => oneR (atI xs i) | some (.tup xs) => oneR (atI xs i) | _ => none)
  | _, _ => none
theorem ix_eq (x y : V) : ixU x y H Q = give (ixO x y H) H Q := by
  cases x <;> cases y <;> first
    | rfl
    | (rename_i p i
       unfold ixU ixO
       dsimp only
       cases H p with
       | none => rfl
       | some o => cases o <;> first
         | rfl
         | (rename_i xs
            dsimp only
            cases atI xs i with
            | none => rfl
            | some v => exact (true_and _).symm))
def gEq (b : Bool) (x y : V) (H : Hp) (Q : VK) : Prop := if b = true then Q (.bl (decide (x = y))) H else rEqD x y H Q
def gNe (b : Bool) (x y : V) (H : Hp) (Q : VK) : Prop := if b = true then Q (.bl (!decide (x = y))) H else rNeD x y H Q
theorem eq_eq (x y : V) : rEqU x y H Q = gEq (scal x y) x y H Q := rfl
theorem ne_eq' (x y : V) : rNeU x y H Q = gNe (scal x y) x y H Q := rfl
theorem gEq_t (x y : V) : gEq true x y H Q = Q (.bl (decide (x = y))) H := by unfold gEq; rw [if_pos rfl]
theorem gEq_f (x y : V) : gEq false x y H Q = rEqD x y H Q := by unfold gEq; rw [if_neg Bool.false_ne_true]
theorem gNe_t (x y : V) : gNe true x y H Q = Q (.bl (!decide (x = y))) H := by unfold gNe; rw [if_pos rfl]
theorem gNe_f (x y : V) : gNe false x y H Q = rNeD x y H Q := by unfold gNe; rw [if_neg Bool.false_ne_true]
end
end LX
namespace LX
open PySem PySem.Spec PyProof.Rows L2
def negI (i : Int) : Int := -i
theorem neg_i {H : Hp} {Q : VK} (i : Int) : rNegU (.int i) H Q = Q (.int (negI i)) H := rfl
end LX

set_option Elab.async false
set_option linter.all false
set_option maxRecDepth 100000
namespace LX
open PySem PySem.Spec PyProof.Rows L2
section
variable {X : Cx}
theorem MtR.imp {id : String} {r r' : V → List V → Hp → VK → Prop} (h : MtM X id r) (i : ∀ x xs H Q, r' x xs H Q → r x xs H Q) : MtM X id r' := fun pins s σ H x xs v us Q I rx rv q => h pins s σ H x xs v us Q I rx rv (i x xs H Q q)
def appU : V → List V → Hp → VK → Prop := fun x vs H Q => match x, vs with
  | .ref l, [y] => (match H l with | some (.lst xs) => xs.length < sizeLine ∧ Q .non (upd H l (.lst (xs ++ [y]))) | _ => False)
  | _, _ => False
theorem mu_append : MtM X "list.append" appU := MtR.imp mt_append fun x vs H Q h => by
  unfold appU at h
  split at h
  · split at h
    · exact ⟨_, _, _, rfl, rfl, ‹_›, h.1, h.2⟩
    · exact h.elim
  · exact h.elim
def pop0U : V → List V → Hp → VK → Prop := fun x vs H Q => match x, vs with
  | .ref l, [.int 0] => (match H l with | some (.lst (y :: r)) => Q y (upd H l (.lst r)) | _ => False)
  | _, _ => False
theorem mu_pop0 : MtM X "list.pop" pop0U := MtR.imp mt_popAt fun x vs H Q h => by
  unfold pop0U at h
  split at h
  · split at h
    · refine ⟨_, _, 0, 0, _, rfl, rfl, ‹_›, by decide, by decide, ?_, rfl, h⟩
      unfold seqIndex?
      simp
    · exact h.elim
  · exact h.elim
def findV (y : V) : List V → Option Nat
  | [] => none
  | z :: r => if eqV z y = true then some 0 else (findV y r).map (· + 1)
theorem findV_spec {y : V} : ∀ {xs : List V} {k : Nat}, findV y xs = some k → k < xs.length ∧ (∀ z, xs[k]? = some z → eqV z y = true) ∧ ∀ j < k, ∀ z, xs[j]? = some z → eqV z y = false
  | [], _, h => by cases h
  | z :: r, k, h => by
    unfold findV at h
    split at h
    · cases h
      refine ⟨by simp, fun z' e => ?_, fun j hj => absurd hj (Nat.not_lt_zero _)⟩
      simp at e; subst e; assumption
    · cases q : findV y r with
      | none => rw [q] at h; cases h
      | some k' =>
        rw [q] at h
        cases h
        obtain ⟨a, b, c⟩ := findV_spec q
        refine ⟨by simp; omega, fun z' e => b z' (by simpa using e), fun j hj z' e => ?_⟩
        cases j with
        | zero => simp at e; subst e; simpa using ‹¬ eqV z y = true›
        | succ j => exact c j (Nat.lt_of_succ_lt_succ hj) z' (by simpa using e)
theorem eqU_at {y : V} : ∀ {xs : List V} {us : List Value}, Vals xs us → xs.all flatV = true → ∀ (j : Nat) (hj : j < us.length), ∃ z, xs[j]? = some z ∧ eqU y us[j] = eqV z y
  | _, _, .nil, _ => fun j hj => absurd hj (Nat.not_lt_zero _)
  | z :: xs, u :: us, .cons r t, f => fun j hj => by
    rw [List.all_cons, Bool.and_eq_true] at f
    cases j with
    | zero => exact ⟨z, rfl, eqU_of r f.1⟩
    | succ j =>
      obtain ⟨z', e, q⟩ := eqU_at (y := y) t f.2 j (by simpa using hj)
      exact ⟨z', by simpa using e, q⟩
def idxO (x : V) (vs : List V) (H : Hp) : Option Res := match x, vs with
  | .ref l, [y] => (match H l with | some (.lst xs) => (match findV y xs with | some k => some (.pure (flatV y = true ∧ xs.all flatV = true) (.int k)) | none => none) | _ => none)
  | _, _ => none
def idxU : V → List V → Hp → VK → Prop := fun x vs H Q => give (idxO x vs H) H Q
theorem mu_index : MtM X "list.index" idxU := by
  intro pins s σ H x vs v us Q I rx rv h
  unfold idxU idxO at h
  split at h
  · rename_i l y
    cases hH : H l with
    | none => rw [hH] at h; exact h.elim
    | some o => cases o with
      | lst xs =>
        rw [hH] at h
        dsimp only at h
        cases hf : findV y xs with
        | none => rw [hf] at h; exact h.elim
        | some k =>
          rw [hf] at h
          obtain ⟨⟨fy, fs⟩, q⟩ := h
          obtain ⟨hk, hk1, hk2⟩ := findV_spec hf
          cases rx
          obtain ⟨u, rfl, ru⟩ := rv.one
          obtain ⟨z, its, n, r, hl, e⟩ := I.lstM hH
          have hsz := sizeLine_eq
          refine call_meets F.slot_list_index ⟨_, e, rfl⟩ F.entry_list_index (F.args_list_index_2 _ _)
            (SeqAt.list_indexAt l its.toArray n none #[] u (eqU y) k (by rw [List.size_toArray]; omega) (by omega) ?_ ?_) ⟨e, fun w hw => mem_eqAt ru fy r fs w (by simpa using hw), ?_⟩
          · obtain ⟨z', e1, e2⟩ := eqU_at (y := y) r fs k (by omega)
            show eqU y its[k] = true
            rw [e2]; exact hk1 z' e1
          · intro j hj hlt
            obtain ⟨z', e1, e2⟩ := eqU_at (y := y) r fs j (by simpa using hj)
            show eqU y its[j] = false
            rw [e2]; exact hk2 j hlt z' e1
          · exact ⟨.int k, H, I.tok _, ⟨_, rfl⟩, q⟩
      | _ => rw [hH] at h; exact h.elim
  · exact h.elim
def cntU : V → List V → Hp → VK → Prop := fun x vs H Q => match x, vs with
  | .ref l, [y] => (match H l with | some (.lst xs) => (flatV y = true ∧ xs.all flatV = true) ∧ Q (.int (xs.countP fun z => eqV z y : Nat)) H | _ => False)
  | _, _ => False
theorem countP_eqU {y : V} : ∀ {xs : List V} {us : List Value}, Vals xs us → xs.all flatV = true → us.countP (eqU y) = xs.countP fun z => eqV z y
  | _, _, .nil, _ => rfl
  | z :: xs, u :: us, .cons r t, f => by
    rw [List.all_cons, Bool.and_eq_true] at f
    rw [List.countP_cons, List.countP_cons, countP_eqU t f.2, eqU_of r f.1]
theorem mu_count : MtM X "list.count" cntU := by
  intro pins s σ H x vs v us Q I rx rv h
  unfold cntU at h
  split at h
  · rename_i l y
    split at h
    · rename_i xs hH
      obtain ⟨⟨fy, fs⟩, q⟩ := h
      cases rx
      obtain ⟨u, rfl, ru⟩ := rv.one
      obtain ⟨z, its, n, r, hl, e⟩ := I.lstM hH
      refine call_meets F.slot_list_count ⟨_, e, rfl⟩ F.entry_list_count (F.args_list_count_2 _ _) (SeqAt.list_countAt l its.toArray n none #[] u (eqU y)) ⟨e, fun w hw => mem_eqAt ru fy r fs w (by simpa using hw), ?_⟩
      refine ⟨.int _, H, I.tok _, ⟨_, rfl⟩, ?_⟩
      rw [show its.toArray.toList = its from rfl, countP_eqU r fs]
      exact q
    · exact h.elim
  · exact h.elim
def inO (neg : Bool) (x y : V) (H : Hp) : Option Res := match y with
  | .ref p => (match H p with
    | some (.lst xs) => some (.pure (flatV x = true ∧ xs.all flatV = true) (.bl (if neg then !inV x xs else inV x xs)))
    | some (.tup xs) => some (.pure (flatV x = true ∧ xs.all flatV = true) (.bl (if neg then !inV x xs else inV x xs)))
    | _ => none)
  | _ => none
def inU (neg : Bool) : R2 := fun x y H Q => give (inO neg x y H) H Q
theorem inU_to {K : PySem.W.Frag} {neg : Bool} : ∀ x y H Q, inU neg x y H Q → rIn K neg x y H Q := fun x y H Q h => by
  unfold inU inO at h
  split at h
  · rename_i p
    cases hH : H p with
    | none => rw [hH] at h; exact h.elim
    | some o => cases o with
      | lst xs => rw [hH] at h; exact ⟨_, _, rfl, .inl (.inl (.inl hH)), h.1.1, h.1.2, h.2⟩
      | tup xs => rw [hH] at h; exact ⟨_, _, rfl, .inr (.inl (.inl hH)), h.1.1, h.1.2, h.2⟩
      | _ => rw [hH] at h; exact h.elim
  · exact h.elim
theorem ou_in : OpR X (compareOp .In) (inU false) := OpR.imp op_in_seq inU_to
def listDU : List V → Hp → VK → Prop := fun xs H Q => match xs with
  | [.ref p] => (match H p with | some (.dK kvs) => ∀ l, H l = none → Q (.ref l) (upd H l (.lst (kvs.map fun q => kV q.1))) | _ => False)
  | _ => False
def sortU : List V → Hp → VK → Prop := fun xs H Q => match xs with
  | [.ref p] => (match H p with | some (.lst ys) => ∃ ns : List Int, ys = ns.map V.int ∧ ns.length < 64 ∧ ∀ l ns', H l = none → List.Perm ns' ns → ns'.Pairwise (· ≤ ·) → Q (.ref l) (upd H l (.lst (ns'.map V.int))) | _ => False)
  | _ => False
theorem ints_are : ∀ {ns : List Int} {us : List Value}, Vals (ns.map V.int) us → IntsAre us ns
  | [], _, .nil => .nil
  | _ :: _, _, .cons ⟨_, e⟩ t => by subst e; exact .cons _ _ (ints_are t)
end
end LX
namespace LX
open PySem PySem.Spec PyProof.Rows L2
section
variable {X : Cx} {o e a b c i : Expr} {es : List Expr} {to ta tb tc td ty : TE} {t : TA} {name : Str} {pos apos cpos : Pos} {T id : String} {r : V → List V → Hp → VK → Prop}
def isLst (x : V) (H : Hp) : Prop := match x with | .ref p => (match H p with | some (.lst _) => True | _ => False) | _ => False
theorem isLst_to {K : PySem.W.Frag} {x : V} {H : Hp} (h : isLst x H) : tyV K "list" x H := by
  unfold isLst at h
  split at h
  · split at h
    · exact .inl ⟨rfl, _, .inl (.inl ‹_›)⟩
    · exact h.elim
  · exact h.elim
def tLM (r : V → List V → Hp → VK → Prop) (to : TE) (t : TA) : TE := fun σ H Q => to σ H fun x H1 => isLst x H1 ∧ t σ H1 fun xs H2 => r x xs H2 Q
theorem eu_lm (slot : Slot "list" name id) (hty : typeOf (.builtin id) = pure (.type "method_descriptor")) (hm : MtM X id r) (ho : PE X o to) (ha : PA X (e :: es) t)
    (hbase : attributeBase o name X.env (eval o X.env) = eval o X.env := by rfl)
    (hfew : ((backTo cpos (starEach (e :: es) X.env)).all (fun x => !x.1) && (backToKw cpos (keywordEach [] X.env)).all (fun x => x.1.isSome)
      && decide ((e :: es).length + ([] : List Keyword).length + (if ([] : List Keyword).isEmpty then 0 else 1) < 30)) = true := by rfl)
    (hline : (apos.endLine == cpos.line) = true := by rfl) (hs : starEach (e :: es) X.env = (false, eval e X.env) :: starEach es X.env := by rfl) (hplain : (backTo cpos (starEach es X.env)).any (·.1) = false := by rfl) :
    PE X (.Call (.Attribute o name apos) (e :: es) [] cpos) (tLM r to t) := by
  intro pins s σ H Q I h
  refine wpAny_Call_method_late hbase hfew hline rfl (thn (ho pins s σ H _ I h) fun v s1 ⟨x, H1, I1, r1, ty, q1⟩ => ?_)
  obtain ⟨h1, h2⟩ := tyV_is I1 r1 (isLst_to ty)
  refine ⟨"list", id, PySem.F.plainAttrs_list, slot, hty, h1, h2, ?_⟩
  have hA := ha cpos pins s1 σ H1 _ I1 q1
  rw [hs] at hA ⊢
  refine Calls.callWith_builtin (by show (false || (backTo cpos (starEach es X.env)).any (·.1)) = false; rw [hplain] <;> rfl) (Calls.evalArgs_plain ?_)
  exact thn hA fun us s2 ⟨vs, H2, I2, r2, q2⟩ => hm pins s2 σ H2 x vs v us Q I2 r1 r2 q2
def diU (neg : Bool) (y x : V) (H : Hp) (Q : VK) : Prop := match x with
  | .ref a => (match H a with | some (.dK kvs) => (match keyOf y with | some k => Q (.bl (if neg then !(valV kvs k).isSome else (valV kvs k).isSome)) H | none => False) | _ => False)
  | _ => False
def tDiU (neg : Bool) (ty td : TE) : TE := fun σ H Q => ty σ H fun y H1 => td σ H1 fun x H2 => diU neg y x H2 Q
def isDK (x : V) (H : Hp) : Prop := match x with | .ref p => (match H p with | some (.dK _) => True | _ => False) | _ => False
def dpopU (x y : V) (H : Hp) (Q : VK) : Prop := match x with
  | .ref a => (match H a with | some (.dK kvs) => (match keyOf y with | some k => (match valV kvs k with | some v => Q v (upd H a (.dK (dropK kvs k))) | none => False) | none => False) | _ => False)
  | _ => False
def tDPopU (td ty : TE) : TE := fun σ H Q => td σ H fun x H1 => isDK x H1 ∧ ty σ H1 fun y H2 => dpopU x y H2 Q
theorem tu_pc {op : CmpOp} {t : TE} (h : PC X op a b t) (h1 : behindInMarks op b = false := by first | exact nobehind _ (by decide) (by decide) | rfl) : PT X (.Compare a [op] [b] pos) (tTestU t) := by
  intro pins s σ H Q I hw
  refine wpAny_isTrue_Compare1 (thn (h pins s σ H _ I hw) fun v s1 h1 => thn h1 fun u s2 h2 => thn h2 fun c s3 ⟨x, H1, I1, r1, q1⟩ => ?_) h1
  obtain ⟨d, rfl, q⟩ := bU_to q1
  cases r1
  exact wpAny_truthy_bool ⟨H1, I1, q⟩
def tChU (r r' : R2) (ta tb tc : TE) : TE := fun σ H Q => ta σ H fun x H1 => tb σ H1 fun y H2 => r x y H2 fun z H3 => bU z fun k => if k = true then tc σ H3 fun w' H4 => r' y w' H4 Q else Q (.bl false) H3
end
end LX

set_option Elab.async false
set_option linter.all false
set_option maxRecDepth 100000
namespace LX
section
open PySem PySem.Spec PySem.Calls PyProof.Rows PySem.W Builtin Builtin.ObjectAttr Builtin.Getset_descriptor
def AtC (h : Heap) (x C : Addr) : Prop := ∃ o, h.get? x = some o ∧ o.cls = .ref C
theorem AtC.type {M : Model} {h : Heap} {x C : Addr} (I : AtC h x C) : Looks M h (typeOf (.ref x)) (.ref C) := by
  obtain ⟨o, h1, h2⟩ := I
  exact h2 ▸ (Looks.ld h1).andThen .now
theorem looks_cfind {K : Frag} {M : Model} {h : Heap} (X : K.In h) {x C : Addr} {name : Str} {g a : Value} (ha : findIn K (.ref C) name = some (some a)) (hg : specialIn K a "__get__" = some (some g)) (hd : takesIn K a = some true) :
    Looks M h (find (.ref x) (.ref C) name) (.bind g a) := by
  have L1 := looks_findIn (M := M) X ha
  have L2 : Looks M h (getOf (some a)) (some g) := looks_specialIn X hg
  have L3 := looks_takesIn (M := M) X hd
  refine L1.andThen (L2.andThen ?_)
  exact (show Looks M h (dataDescriptor? (some a) (some g)) (some (g, a)) from L3.andThen .now).andThen (Looks.tag .now)
variable {prog : Program} {w : World} {A : Around} {E : Value → Shared → Prop} {s : Shared} {K : Frag} {x C : Addr}
theorem class_getX {tp : Value} {R : Result → Shared → Prop} (X : K.In s.heap) (I : AtC s.heap x C) (hm : mroIn K C (.type "object") = some true)
    (h : R (.ok (.ret (.ref C))) s) : codeAny (model prog w) A (.call (.builtin "getset_descriptor.__get__") ⟨[.builtin "object.__class__", .ref x, tp], []⟩) R s := by
  obtain ⟨hh, g, dr, t, os⟩ := s
  have L0 := I.type (M := model prog w)
  have L1 := looks_mroIn (M := model prog w) X hm
  refine codeAny_call_builtin KF.slot_gs.plain KF.entry_gs (KF.slot_gs.check _ _ _ _ _ _ _ _ KF.type_class (KF.args_gs _ _ _) ?_)
  unfold Builtin.«getset_descriptor.__get__» descrGet
  rw [dga_obj]
  refine wpAny_bind (wpAny_pure ?_)
  unfold descrGetter descrCheckInstance descrNameAndClass isInstance
  simp only [KF.owner_class]
  repeat lk
  refine ⟨Code.quiet_builtin _ (by decide +kernel), codeAny_builtin KF.entry_class ?_⟩
  unfold Builtin.«object.__class__» shownTypeOf
  repeat lk
  exact h
theorem exc_check {nameV : Value} {Q : Unit → Shared → Prop} (X : K.In s.heap) (I : AtC s.heap x C) (hb : mroIn K C (.type "BaseException") = some true) (hq : Q () s) :
    wpAny (model prog w) A (checkBuiltinCall "BaseException.__getattribute__" ⟨[.ref x, nameV], []⟩) Q E s := by
  have hk : builtinKind "BaseException.__getattribute__" = some .slot := by decide +kernel
  have hsplit : splitId "BaseException.__getattribute__" = some ("BaseException", "__getattribute__") := by decide +kernel
  have ha := F.args_bexc_ga (.ref x) nameV
  have LI : Looks (model prog w) s.heap (isInstance (.ref x) (.type "BaseException")) true := I.type.andThen (looks_mroIn X hb)
  obtain ⟨hh, g, dr, t, os⟩ := s
  simp only [checkBuiltinCall, hk, hsplit]
  refine wpAny_bind (LI.at ?_)
  repeat (first | assumption | wp_step)
structure ExcC (K : Frag) (C : Addr) : Prop where
  ga : findIn K (.ref C) "__getattribute__" = some (some (.builtin "BaseException.__getattribute__"))
  gr : findIn K (.ref C) "__getattr__" = some none
  cl : findIn K (.ref C) "__class__" = some (some (.builtin "object.__class__"))
  sp : specialIn K (.builtin "object.__class__") "__get__" = some (some (.builtin "getset_descriptor.__get__"))
  tk : takesIn K (.builtin "object.__class__") = some true
  mo : mroIn K C (.type "object") = some true
  mb : mroIn K C (.type "BaseException") = some true
theorem exc_entry {tk : Tok} {Q : Fin → Shared → Prop} (Z : ExcC K C) (X : K.In s.heap) (I : AtC s.heap x C) (hq : Q (.done (.ret (.ref C))) s) :
    wpAny (model prog w) A (Builtin.«object.__getattribute__» ⟨[.ref x, .str "__class__" tk], []⟩) Q E s := by
  obtain ⟨hh, g, dr, t, os⟩ := s
  have L0 := I.type (M := model prog w)
  have L1 := looks_cfind (M := model prog w) (x := x) X Z.cl Z.sp Z.tk
  repeat (any_goals (first | assumption | with_reducible refine L0.at ?_ | with_reducible refine L1.at ?_ | wp_step))
  refine class_getX X I Z.mo ?_
  repeat (any_goals (first | assumption | wp_step))
theorem exc_by {tk : Tok} {fill expr : Bool} {Q : Value → Shared → Prop} (Z : ExcC K C) (X : K.In s.heap) (I : AtC s.heap x C) (hq : Q (.ref C) s) :
    wpAny (model prog w) A (getAttrBy (.ref x) (.str "__class__" tk) fill expr) Q E s := by
  have hs : K.In s.heap ∧ AtC s.heap x C := ⟨X, I⟩
  obtain ⟨hh, g, dr, t, os⟩ := s
  have L0 := I.type (M := model prog w)
  have L1 := looks_findIn (M := model prog w) X Z.ga
  have L2 := looks_findIn (M := model prog w) X Z.gr
  have f3 := F.excAttr_ValueError.ga.bind (.ref x)
  have hx0 : (expr && onTheHeap (Value.builtin "BaseException.__getattribute__")) = false := by cases expr <;> rfl
  have hx2 : (Value.builtin "BaseException.__getattribute__" == Value.builtin "object.__getattribute__") = false := by decide +kernel
  have hx1 : (onTheHeap (Value.ref C) && Value.builtin "BaseException.__getattribute__" == Value.builtin "object.__getattribute__") = false := by rw [hx2]; rfl
  repeat (any_goals (first | assumption | with_reducible refine L0.at ?_ | with_reducible refine L1.at ?_ | with_reducible refine L2.at ?_ | wp_step))
  refine codeAny_call_builtin F.excAttr_ValueError.ga.plain F.entry_bexc_ga (exc_check hs.1 hs.2 Z.mb (exc_entry Z hs.1 hs.2 ?_))
  repeat (any_goals (first | assumption | wp_step))
theorem exc_class {Q : Option Value → Shared → Prop} (Z : ExcC K C) (X : K.In s.heap) (I : AtC s.heap x C) (hq : Q (some (.ref C)) { s with toks := s.toks + 1 }) :
    wpAny (model prog w) A (getAttr? (.ref x) "__class__") Q E s := by
  obtain ⟨hh, g, dr, t, os⟩ := s
  unfold getAttr? getAttrBy?
  refine wpAny_bind (wpAny_mkText (wpAny_bind (wpAny_attempt (exc_by (s := ⟨hh, g, dr, t + 1, os⟩) Z X I ?_))))
  exact wpAny_pure hq
theorem kitx_exc (Z : ExcC K C) : KitX K (.ref x) (.ref C) (fun h => AtC h x C) where
  ty := fun _ _ _ I => I.type
  it := fun _ _ X _ => by
    obtain ⟨cd, hc, _⟩ := Option.bind_eq_some_iff.mp Z.mo
    unfold clsIn at hc
    split at hc
    · rename_i c' d' cd' sl' ho
      intro A' Q' E' s' k q
      unfold isType loadHead
      exact wpAny_bind (wpAny_loadPart (k _ _ (X _ _ ho)) (wpAny_pure q))
    · cases hc
  ne := fun h tp dd its n sl X htp => by
    obtain ⟨cd, hc, _⟩ := Option.bind_eq_some_iff.mp Z.mo
    refine Bool.eq_false_iff.mpr fun q => ?_
    have e : C = tp := Value.ref.inj (beq_iff_eq.mp q)
    subst e
    unfold clsIn at hc
    split at hc
    · rename_i c' d' cd' sl' ho
      have z := (X _ _ ho).symm.trans htp
      cases z
    · cases hc
  ca := fun X I k => exc_class Z X I k
end
section
open PySem PySem.Spec PyProof.Rows L2
def isxU (K : PySem.W.Frag) (ea : Addr) (oe : Obj) : List V → Hp → VK → Prop := fun xs H Q => match xs with
  | [.ref a, c] => a = ea ∧ okC c = true ∧ ∃ C b, oe.cls = .ref C ∧ ExcC K C ∧ PySem.W.kitOne K (.ref C) (cV c) = some b ∧ Q (.bl b) H
  | _ => False
theorem cu_isx {X : Cx} {ea : Addr} {oe : Obj} {xe : Value → Shared → Prop} {K : PySem.W.Frag} (hK : X.K = K) : CallR (markCx X ea oe xe) (.builtin "isinstance") (isxU K ea oe) := by
  subst hK
  intro pins s σ H xs us Q I r h
  unfold isxU at h
  split at h
  · rename_i a c
    obtain ⟨ha, hc, C, b, ho, Z, e, h⟩ := h
    subst ha
    obtain ⟨u1, u2, rfl, r1, r2⟩ := vals2 r
    cases r1
    have eu : u2 = cV c := by
      cases c <;> first | exact r2 | cases hc
    subst eu
    have pe := (I.pin (a, oe) (List.mem_append_left _ (List.mem_append_right _ (List.mem_singleton.mpr rfl)))).1
    exact PySem.W.kia_one (kitx_exc Z) I.kIn ⟨oe, pe, ho⟩ e (fun z => nomatch z) fun tk => ⟨.bl b, H, I.tok tk, rfl, h⟩
  · exact h.elim
end
end LX

set_option Elab.async false
set_option linter.all false
set_option maxRecDepth 100000
namespace LX
section
open PySem PySem.Spec PySem.Calls PyProof.Rows PySem.W
variable {prog : Program} {w : World} {A : Around} {E : Value → Shared → Prop} {s : Shared}
end
section
open PySem PySem.Spec PyProof.Rows L2
variable {X : Cx} {a : Expr} {ta : TE} {p p' pos pos' : Pos}
def tLRev (ta : TE) : TE := fun σ H Q => ta σ H fun v H1 => match v with
  | .ref l => (match H1 l with | some (.lst xs) => ∀ y, H1 y = none → Q (.ref y) (upd H1 y (.lst xs.reverse)) | _ => False)
  | _ => False
def upTo (lo : Int) (n : Nat) : List Int := (List.range n).map fun (k : Nat) => lo + (k : Int)
def tLRng1 (ta : TA) : TE := fun σ H Q => ta σ H fun vs H1 => match vs with
  | [.int j] => 0 ≤ j ∧ j ≤ 1000 ∧ ∀ y, H1 y = none → Q (.ref y) (upd H1 y (.lst ((upTo 0 j.toNat).map V.int)))
  | _ => False
def tLRng2 (ta : TA) : TE := fun σ H Q => ta σ H fun vs H1 => match vs with
  | [.int i, .int j] => -1000 ≤ i ∧ i ≤ 1000 ∧ -1000 ≤ j ∧ j ≤ 1000 ∧ ∀ y, H1 y = none → Q (.ref y) (upd H1 y (.lst ((upTo i (j - i).toNat).map V.int)))
  | _ => False
end
end LX

set_option Elab.async false
set_option linter.all false
set_option maxRecDepth 100000
namespace LX
open PySem PySem.Spec PyProof.Rows L2
section
variable {X : Cx} {tg : Expr}
end
section
variable {X : Cx} {o e : Expr} {es : List Expr} {to : TE} {t : TA} {apos cpos : Pos}
def joinU : V → List V → Hp → VK → Prop := fun x vs H Q => match x, vs with
  | .str z, [.ref l] => (match H l with | some (.lst xs) => ∃ ys : List Str, xs = ys.map V.str ∧ (ys.map (·.length)).sum + ys.length * z.length ≤ 16777216 ∧ Q (.str (Txt.join z ys)) H | _ => False)
  | _, _ => False
def isStrV : V → Prop
  | .str _ => True
  | _ => False
def tJoin (to : TE) (t : TA) : TE := fun σ H Q => to σ H fun x H1 => isStrV x ∧ t σ H1 fun xs H2 => joinU x xs H2 Q
end
def mulSU : R2 := fun x y H Q => match x, y with
  | .str z, .int n => (1 < n ∧ 0 < z.length ∧ z.length * n.toNat ≤ 1000000 ∧ n ≤ 1000000) ∧ Q (.str ⟨(List.replicate n.toNat z.cps).foldl (· ++ ·) #[]⟩) H
  | _, _ => False
def ixSU : R2 := fun x y H Q => match x, y with
  | .str z, .int i => (match atI z.cps.toList i with | some c => z.length ≤ sizeLine ∧ Q (.str ⟨#[c]⟩) H | none => False)
  | _, _ => False
section
variable {X : Cx} {i o : Expr} {pos p : Pos} {ty : TE} {d : Addr} {kvs : List (Key × V)} {x : Str}
def tGGet (kvs : List (Key × V)) (ty : TE) : TE := fun σ H Q => ty σ H fun y H1 => match keyOf y with | some k => (match valV kvs k with | some v => Q v H1 | none => False) | none => False
def tGIn (neg : Bool) (kvs : List (Key × V)) (ty : TE) : TE := fun σ H Q => ty σ H fun y H1 => match keyOf y with | some k => Q (.bl (if neg then !(valV kvs k).isSome else (valV kvs k).isSome)) H1 | none => False
end
def clrU : V → List V → Hp → VK → Prop := fun x vs H Q => match x, vs with
  | .ref l, [] => (match H l with | some (.lst xs) => Q .non (upd H l (.lst [])) | _ => False)
  | _, _ => False
section
variable {X : Cx} {o : Expr} {to : TE} {name : Str} {apos cpos : Pos} {id : String} {r : V → List V → Hp → VK → Prop}
def tLM0 (r : V → List V → Hp → VK → Prop) (to : TE) : TE := fun σ H Q => to σ H fun x H1 => isLst x H1 ∧ r x [] H1 Q
end
theorem lenS {us : List Value} {n : Nat} {p : List Value → Prop} (h : us.length = n + 1) (k : ∀ (a : Value) (r : List Value), r.length = n → p (a :: r)) : p us := by
  cases us with
  | nil => cases h
  | cons a r => exact k a r (Nat.succ.inj h)
theorem len0 {us : List Value} {p : List Value → Prop} (h : us.length = 0) (k : p []) : p us := by
  cases us with
  | nil => exact k
  | cons a r => cases h
theorem len1 {us : List Value} {p : List Value → Prop} (h : us.length = 1) (k : ∀ a : Value, p [a]) : p us := lenS h fun a r h => len0 (p := fun r => p (a :: r)) h (k a)
theorem len2 {us : List Value} {p : List Value → Prop} (h : us.length = 2) (k : ∀ a a1 : Value, p [a, a1]) : p us := lenS h fun a r h => len1 (p := fun r => p (a :: r)) h (k a)
theorem len3 {us : List Value} {p : List Value → Prop} (h : us.length = 3) (k : ∀ a a1 a2 : Value, p [a, a1, a2]) : p us := lenS h fun a r h => len2 (p := fun r => p (a :: r)) h (k a)
theorem len4 {us : List Value} {p : List Value → Prop} (h : us.length = 4) (k : ∀ a a1 a2 a3 : Value, p [a, a1, a2, a3]) : p us := lenS h fun a r h => len3 (p := fun r => p (a :: r)) h (k a)
theorem len5 {us : List Value} {p : List Value → Prop} (h : us.length = 5) (k : ∀ a a1 a2 a3 a4 : Value, p [a, a1, a2, a3, a4]) : p us := lenS h fun a r h => len4 (p := fun r => p (a :: r)) h (k a)
theorem fb1 {K : PySem.W.Frag} {x qual : Str} {st : Stmt} {f : Addr} {fd : FuncData} {p0 : Str} (F : Fun K x qual st f fd)
    (h : ∀ (kV doc pm : Value) (an : Option Addr) (cdv ct u0 : Value), bindArgs (PySem.W.fnOf x qual (defArgs st) (defBody st) (defScope st) .none kV doc pm an cdv ct) ⟨[u0], []⟩ = pure [(p0, u0)]) : Binds K fd [p0] [] :=
  F.binds fun kV doc pm an cdv ct us hl => len1 (p := fun us => bindArgs (PySem.W.fnOf x qual (defArgs st) (defBody st) (defScope st) .none kV doc pm an cdv ct) ⟨us, []⟩ = pure ([p0].zip us)) hl (h kV doc pm an cdv ct)
theorem fb2 {K : PySem.W.Frag} {x qual : Str} {st : Stmt} {f : Addr} {fd : FuncData} {p0 p1 : Str} (F : Fun K x qual st f fd)
    (h : ∀ (kV doc pm : Value) (an : Option Addr) (cdv ct u0 u1 : Value), bindArgs (PySem.W.fnOf x qual (defArgs st) (defBody st) (defScope st) .none kV doc pm an cdv ct) ⟨[u0, u1], []⟩ = pure [(p0, u0), (p1, u1)]) : Binds K fd [p0, p1] [] :=
  F.binds fun kV doc pm an cdv ct us hl => len2 (p := fun us => bindArgs (PySem.W.fnOf x qual (defArgs st) (defBody st) (defScope st) .none kV doc pm an cdv ct) ⟨us, []⟩ = pure ([p0, p1].zip us)) hl (h kV doc pm an cdv ct)
theorem fb3 {K : PySem.W.Frag} {x qual : Str} {st : Stmt} {f : Addr} {fd : FuncData} {p0 p1 p2 : Str} (F : Fun K x qual st f fd)
    (h : ∀ (kV doc pm : Value) (an : Option Addr) (cdv ct u0 u1 u2 : Value), bindArgs (PySem.W.fnOf x qual (defArgs st) (defBody st) (defScope st) .none kV doc pm an cdv ct) ⟨[u0, u1, u2], []⟩ = pure [(p0, u0), (p1, u1), (p2, u2)]) : Binds K fd [p0, p1, p2] [] :=
  F.binds fun kV doc pm an cdv ct us hl => len3 (p := fun us => bindArgs (PySem.W.fnOf x qual (defArgs st) (defBody st) (defScope st) .none kV doc pm an cdv ct) ⟨us, []⟩ = pure ([p0, p1, p2].zip us)) hl (h kV doc pm an cdv ct)
theorem fb4 {K : PySem.W.Frag} {x qual : Str} {st : Stmt} {f : Addr} {fd : FuncData} {p0 p1 p2 p3 : Str} (F : Fun K x qual st f fd)
    (h : ∀ (kV doc pm : Value) (an : Option Addr) (cdv ct u0 u1 u2 u3 : Value), bindArgs (PySem.W.fnOf x qual (defArgs st) (defBody st) (defScope st) .none kV doc pm an cdv ct) ⟨[u0, u1, u2, u3], []⟩ = pure [(p0, u0), (p1, u1), (p2, u2), (p3, u3)]) : Binds K fd [p0, p1, p2, p3] [] :=
  F.binds fun kV doc pm an cdv ct us hl => len4 (p := fun us => bindArgs (PySem.W.fnOf x qual (defArgs st) (defBody st) (defScope st) .none kV doc pm an cdv ct) ⟨us, []⟩ = pure ([p0, p1, p2, p3].zip us)) hl (h kV doc pm an cdv ct)
theorem fb5 {K : PySem.W.Frag} {x qual : Str} {st : Stmt} {f : Addr} {fd : FuncData} {p0 p1 p2 p3 p4 : Str} (F : Fun K x qual st f fd)
    (h : ∀ (kV doc pm : Value) (an : Option Addr) (cdv ct u0 u1 u2 u3 u4 : Value), bindArgs (PySem.W.fnOf x qual (defArgs st) (defBody st) (defScope st) .none kV doc pm an cdv ct) ⟨[u0, u1, u2, u3, u4], []⟩ = pure [(p0, u0), (p1, u1), (p2, u2), (p3, u3), (p4, u4)]) : Binds K fd [p0, p1, p2, p3, p4] [] :=
  F.binds fun kV doc pm an cdv ct us hl => len5 (p := fun us => bindArgs (PySem.W.fnOf x qual (defArgs st) (defBody st) (defScope st) .none kV doc pm an cdv ct) ⟨us, []⟩ = pure ([p0, p1, p2, p3, p4].zip us)) hl (h kV doc pm an cdv ct)
theorem seqG {t u : TS} {D : Ends} {σ : L2.St} {H : Hp} (h : ∀ R : TS, u = R → t { D with nx := R D } σ H) : tSeq t u D σ H := h u rfl
theorem ifG {c : TT} {t u : TS} {D : Ends} {σ : L2.St} {H : Hp} (h : ∀ T U : TS, t = T → u = U → c σ H fun b H1 => if b = true then T D σ H1 else U D σ H1) : tIfS c t u D σ H := h t u rfl rfl
theorem scal_nn  : scal (.non) (.non) = true := rfl
theorem scal_ni (y : Int) : scal (.non) (.int y) = true := rfl
theorem scal_in (x : Int) : scal (.int x) (.non) = true := rfl
theorem scal_nb (y : Bool) : scal (.non) (.bl y) = true := rfl
theorem scal_bn (x : Bool) : scal (.bl x) (.non) = true := rfl
theorem scal_ns (y : Str) : scal (.non) (.str y) = true := rfl
theorem scal_sn (x : Str) : scal (.str x) (.non) = true := rfl
theorem scal_ii (x : Int) (y : Int) : scal (.int x) (.int y) = true := rfl
theorem scal_bb (x : Bool) (y : Bool) : scal (.bl x) (.bl y) = true := rfl
theorem scal_ss (x : Str) (y : Str) : scal (.str x) (.str y) = true := rfl
theorem scal_is (x : Int) (y : Str) : scal (.int x) (.str y) = true := rfl
theorem scal_si (x : Str) (y : Int) : scal (.str x) (.int y) = true := rfl
theorem scal_bs (x : Bool) (y : Str) : scal (.bl x) (.str y) = true := rfl
theorem scal_sb (x : Str) (y : Bool) : scal (.str x) (.bl y) = true := rfl
theorem scal_rr (x : Addr) (y : Addr) : scal (.ref x) (.ref y) = false := rfl
theorem scal_nr (y : Addr) : scal (.non) (.ref y) = false := rfl
theorem scal_rn (x : Addr) : scal (.ref x) (.non) = false := rfl
def gS (b : Bool) (p : Prop) : Prop := b = true ∧ p
theorem gS_t (p : Prop) : gS true p = p := propext ⟨fun h => h.2, fun h => ⟨rfl, h⟩⟩
def rEqS : R2 := fun x y H Q => gS (scal x y) (Q (.bl (decide (x = y))) H)
def rNeS : R2 := fun x y H Q => gS (scal x y) (Q (.bl (!decide (x = y))) H)
open PySem.W in
theorem walkX {K : Params → Frag} {q : Program} {loose : List Str} {XP : (Str → Option Value) → Heap → Prop} {r : RowW} {d : DefRec} {kwd : List (Str × Expr)} {run : Value → List Value → Sem Value} {as : List Addr} {n t : Nat}
    (e : ∀ P, as = (K P).map (·.1)) (W : WalkO q loose XP (fun w h => (K w.params).In h) r d kwd run) : WalkX q loose XP (X.obsZ as) (X.valZ K n t) r d kwd run :=
  fun w s₀ s₁ mg mb G y a o pm cd doc dV kV h1 h2 h3 h4 h5 h6 args vals as' L hpre hl hr hw hlo =>
    W w s₀ s₁ mg mb G (InK.keeps w _ _ (X.z_facts e y).2.1 L.keeps) a o pm cd doc dV kV h1 h2 h3 h4 h5 h6 args vals as' hpre hl hr hw hlo
end LX

set_option Elab.async false
set_option linter.all false
set_option maxRecDepth 100000
namespace LX
open PySem PySem.Spec PyProof.Rows L2
section
variable {X : Cx}
def dictU : List V → Hp → VK → Prop := fun xs H Q => match xs with
  | [.ref p] => (match H p with | some (.dK kvs) => ∀ l, H l = none → Q (.ref l) (upd H l (.dK kvs)) | _ => False)
  | _ => False
theorem cu_dict : CallR X (.type "dict") dictU := by
  intro pins s σ H xs us Q I r h
  unfold dictU at h
  split at h
  · rename_i p
    split at h
    · rename_i kvs hH
      obtain ⟨u, rfl, rx⟩ := vals1 r
      cases rx
      obtain ⟨z, hd, vs, rel, dd⟩ := dk_of I.hok hH
      have hlen := rel.length
      refine PySem.kt_call_dict (knd := mixKind X.prog X.w) hd dd (by omega) fun h' hm hs => ?_
      have kp : ∀ b u, s.heap.get? b = some u → h'.get? b = some u := fun b u e => (hs.2 b (Nat.ne_of_lt (Heap.lt_size e))).trans (Heap.get?_push_of_some _ e)
      exact ⟨.ref s.heap.objs.size, _, I.laid (t' := s.toks) kp (Nat.le_refl _) (show ObjOk X.prog X.w _ h' _ (.dK kvs) from ⟨z, beq_eq_false_iff_ne.mpr (Ne.symm (Nat.ne_of_lt I.big)), vs, rel, hm⟩), rfl, h _ (I.hok.fresh (Nat.le_refl _))⟩
    · exact h.elim
  · exact h.elim
end

theorem minL_snoc {l : List Int} (y : Int) (h : l ≠ []) : Lf.minL (l ++ [y]) = if y < Lf.minL l then y else Lf.minL l := by
  cases l with
  | nil => exact absurd rfl h
  | cons a r =>
    show (r ++ [y]).foldl _ a = _
    rw [List.foldl_append]
    rfl
theorem best_min (ns : List Int) : ∀ k, k < ns.length → ns.getD (argBest (fun i j => decide (ns.getD i 0 < ns.getD j 0)) k) 0 = Lf.minL (ns.take (k + 1))
  | 0, h => by
    cases ns with
    | nil => simp at h
    | cons a r => simp [argBest, Lf.minL]
  | k + 1, h => by
    have ih := best_min ns k (by omega)
    have e : ns.take (k + 1 + 1) = ns.take (k + 1) ++ [ns.getD (k + 1) 0] := by
      rw [List.take_succ, List.getD_eq_getElem?_getD, List.getElem?_eq_getElem h]; rfl
    rw [e, minL_snoc _ (List.ne_nil_of_length_pos (by rw [List.length_take]; omega)), ← ih]
    show ns.getD (if decide _ = true then _ else _) 0 = _
    by_cases c : ns.getD (k + 1) 0 < ns.getD (argBest (fun i j => decide (ns.getD i 0 < ns.getD j 0)) k) 0
    · rw [if_pos c, if_pos (by simpa using c)]
    · rw [if_neg c, if_neg (by simpa using c)]
theorem best_all (ns : List Int) (h : ns ≠ []) : ns.getD (argBest (fun i j => decide (ns.getD i 0 < ns.getD j 0)) (ns.length - 1)) 0 = Lf.minL ns := by
  have hl : 0 < ns.length := List.length_pos_iff.mpr h
  rw [best_min ns (ns.length - 1) (by omega), show ns.length - 1 + 1 = ns.length by omega, List.take_length]
theorem ints_get {us : List Value} {ns : List Int} (ia : IntsAre us ns) {i : Nat} {v : Value} (h : us[i]? = some v) : ∃ t, v = .int (ns.getD i 0) t := by
  have hi : i < us.length := (List.getElem?_eq_some_iff.mp h).1
  have hl := ia.length
  obtain ⟨t, e⟩ := ia.get i (ns.getD i 0) (by rw [List.getD_eq_getElem?_getD, List.getElem?_eq_getElem (by omega)]; rfl)
  rw [h] at e
  exact ⟨t, Option.some.inj e⟩

section
variable {prog : Program} {w : World} {A : Around}
theorem least_on {R : Result → Shared → Prop} {I B : Addr} {fp wr : List Addr} {n : Nat} {P : Nat → Value → Prop} {St : Nat → Heap → Prop} (kw : List (Str × Value)) (W : Walks prog w A.in1 I fp wr n P St) (key : Nat → Int)
    (hkey : ∀ i v, P i v → ∃ t, v = .int (key i) t) (hB : B ∉ fp) : ∀ (k j : Nat) (z : Shared) (top : Value) (cap : Nat), n = j + 1 + k → St (j + 1) z.heap → P (argBest (fun a b => decide (key a < key b)) j) top →
    z.heap.get? B = some { cls := .type "list", dict := none, data := .seq #[top, top] cap, slots := #[] } →
    (∀ v h' tk, P (argBest (fun a b => decide (key a < key b)) (n - 1)) v → (∀ b o, b ∉ wr → b ≠ B → z.heap.get? b = some o → h'.get? b = some o) → R (.ok (.ret v)) { z with heap := h', toks := tk }) →
    codeAny (model prog w) A (.builtin "min.loop" ⟨[.ref I, .none, .ref B], kw⟩) R z := by
  have hBw : B ∉ wr := fun q => hB (W.sub _ q)
  have nm : (toString "min" ++ toString ".loop" : String) = "min.loop" := by decide
  intro k
  induction k with
  | zero =>
    intro j z top cap hn st hp ho hR
    refine codeAny_builtin PySem.F.entry_min_loop ?_
    rw [Around.under_plainId PySem.F.plain_min_loop _]
    show wpAny _ A.in1 (seqItems? (.ref B) >>= _) _ _ z
    refine wpAny_bind (wpAny_seqItems ho rfl ?_)
    show wpAny _ A.in1 (tryCatch (pyNext (.ref I)) _ >>= _) _ _ z
    refine wpAny_bind (wpAny_tryCatch (W.done z _ _ (by rw [hn]; exact st) fun h' tk kp => ?_))
    have ho' := kp B _ hBw ho
    show wpAny _ A.in1 (updateSeq B (fun _ => #[]) >>= _) _ _ _
    refine wpAny_bind (wpAny_updateSeq ho' rfl (wpAny_bind (wpAny_letGo (wpAny_pure ?_))))
    exact hR top _ tk (by rw [show n - 1 = j by omega]; exact hp) fun b o h1 h2 e => (Heap.get?_update_other _ _ (Ne.symm h2)).trans (kp b o h1 e)
  | succ k ih =>
    intro j z top cap hn st hp ho hR
    refine codeAny_builtin PySem.F.entry_min_loop ?_
    rw [Around.under_plainId PySem.F.plain_min_loop _]
    show wpAny _ A.in1 (seqItems? (.ref B) >>= _) _ _ z
    refine wpAny_bind (wpAny_seqItems ho rfl ?_)
    show wpAny _ A.in1 (tryCatch (pyNext (.ref I)) _ >>= _) _ _ z
    refine wpAny_bind (wpAny_tryCatch (W.item (j + 1) z _ _ (by omega) st fun v h' tk hv st' kp => ?_))
    have ho' := kp B _ hBw ho
    show wpAny _ A.in1 (tryCatch (holding [v, v] (richCompare .Lt v top >>= _)) _ >>= _) _ _ _
    refine wpAny_bind (wpAny_tryCatch (wpAny_holding (wpAny_bind (CmpOf.ints_lt key hkey (j + 1) (argBest (fun a b => decide (key a < key b)) j) v top _ _ _ hv hp ?_))))
    refine wpAny_bind (wpAny_holding (wpAny_truthy_bool (wpAny_bind (wpAny_letGo (wpAny_pure ?_)))))
    by_cases c : key (j + 1) < key (argBest (fun a b => decide (key a < key b)) j)
    · have e1 : argBest (fun a b => decide (key a < key b)) (j + 1) = j + 1 := by
        show (if decide _ = true then _ else _) = _
        rw [if_pos (by simpa using c)]
      simp only [c, decide_true, if_true]
      refine wpAny_bind (wpAny_updateSeq ho' rfl (wpAny_bind (wpAny_letGo ?_)))
      rw [nm]
      refine wpAny_pure ⟨plainId_quiet PySem.F.plain_min_loop _, ih (j + 1) _ v _ (by omega) (W.frame _ _ _ st' fun b hb o e => ?_) (by rw [e1]; exact hv) (Heap.get?_update_self _ ho' rfl) fun v' h2 t2 hp2 kp2 => ?_⟩
      · exact (Heap.get?_update_other _ _ (fun q : B = b => hB (by rw [q]; exact hb))).trans e
      · exact hR v' h2 t2 hp2 fun b o h1 h3 e => kp2 b o h1 h3 ((Heap.get?_update_other _ _ (Ne.symm h3)).trans (kp b o h1 e))
    · have e1 : argBest (fun a b => decide (key a < key b)) (j + 1) = argBest (fun a b => decide (key a < key b)) j := by
        show (if decide _ = true then _ else _) = _
        rw [if_neg (by simpa using c)]
      simp only [c, decide_false, Bool.false_eq_true, if_false]
      refine wpAny_bind (wpAny_letGo ?_)
      rw [nm]
      exact wpAny_pure ⟨plainId_quiet PySem.F.plain_min_loop _, ih (j + 1) _ top cap (by omega) st' (by rw [e1]; exact hp) ho' fun v' h2 t2 hp2 kp2 => hR v' h2 t2 hp2 fun b o h1 h3 e => kp2 b o h1 h3 (kp b o h1 e)⟩

variable {E : Value → Shared → Prop} {s : Shared} {Q : Value → Shared → Prop}
theorem min_args (a v : Value) : argsOk "min" ⟨[a], [(Str.ofString "default", v)]⟩ := by unfold argsOk; kernel_rfl
theorem min_or {l : Addr} {its : List Value} {ns : List Int} {d : Value} (hh : A.handled = none) (hl : s.heap.IsList l its.toArray) (ia : IntsAre its ns)
    (k0 : ns = [] → ∀ h' tk, (∀ b o, s.heap.get? b = some o → h'.get? b = some o) → Q d { s with heap := h', toks := tk })
    (k1 : ns ≠ [] → ∀ t h' tk, (∀ b o, s.heap.get? b = some o → h'.get? b = some o) → Q (.int (Lf.minL ns) t) { s with heap := h', toks := tk }) :
    wpAny (model prog w) A (call (.builtin "min") [.ref l] [(Str.ofString "default", d)]) Q E s := by
  have nm : (toString "min" ++ toString ".loop" : String) = "min.loop" := by decide
  obtain ⟨ol, hol, _⟩ := id hl
  have hll : l < s.heap.objs.size := Heap.lt_size hol
  refine kmb_tree PySem.F.kind_min PySem.F.plain_min PySem.F.entry_min (min_args _ _) ?_
  show wpAny _ A.in1 (Builtin.Builtins.bindParams "min" ["key", "default"] 0 ⟨[], [(Str.ofString "default", d)]⟩ >>= _) _ _ s
  refine wpAny_bind (wpAny_of_eq (show Builtin.Builtins.bindParams "min" ["key", "default"] 0 ⟨[], [(Str.ofString "default", d)]⟩ = pure [none, some d] from rfl) ?_)
  refine wpAny_bind (wpAny_pure (wpAny_bind (wpAny_pyIter_list hl (wpAny_bind (wpAny_newList ?_ (Nat.zero_le _))))))
  rw [nm]
  have hsz : its.toArray.size = ns.length := by rw [List.size_toArray]; exact ia.length
  have hlI : l ≠ s.heap.objs.size := Nat.ne_of_lt hll
  have W := Walks.list (prog := prog) (w := w) (A := A.in1) hh s.heap.objs.size l hlI its.toArray
  have eS : (s.heap.push { cls := .type "list_iterator", data := .fields #[.ref l, .int 0 0] }).objs.size = s.heap.objs.size + 1 := Heap.size_push ..
  have old : ∀ b o, s.heap.get? b = some o → ((s.heap.push { cls := .type "list_iterator", data := .fields #[.ref l, .int 0 0] }).push (PyProof.Rows.seqObj "list" #[] 0)).get? b = some o := fun b o e => Heap.get?_push_of_some _ (Heap.get?_push_of_some _ e)
  have gI : ((s.heap.push { cls := .type "list_iterator", data := .fields #[.ref l, .int 0 0] }).push (PyProof.Rows.seqObj "list" #[] 0)).IsListIter s.heap.objs.size l 0 := ⟨_, Heap.get?_push_of_some _ (Heap.get?_push_size _ rfl), rfl, rfl⟩
  have gL : ((s.heap.push { cls := .type "list_iterator", data := .fields #[.ref l, .int 0 0] }).push (PyProof.Rows.seqObj "list" #[] 0)).IsList l its.toArray := hl.at fun o e => old _ _ e
  have gB : ((s.heap.push { cls := .type "list_iterator", data := .fields #[.ref l, .int 0 0] }).push (PyProof.Rows.seqObj "list" #[] 0)).get? (s.heap.push { cls := .type "list_iterator", data := .fields #[.ref l, .int 0 0] }).objs.size = some (PyProof.Rows.seqObj "list" #[] 0) := Heap.get?_push_size _ rfl
  have nB : (s.heap.push { cls := .type "list_iterator", data := .fields #[.ref l, .int 0 0] }).objs.size ∉ [s.heap.objs.size, l] := by
    rw [eS]; intro q
    rcases List.mem_cons.mp q with q | q
    · exact Nat.succ_ne_self _ q
    · have h2 : s.heap.objs.size + 1 < s.heap.objs.size := by rw [show s.heap.objs.size + 1 = l from List.mem_singleton.mp q]; exact hll
      exact Nat.lt_irrefl _ (Nat.lt_of_succ_lt h2)
  have nBw : (s.heap.push { cls := .type "list_iterator", data := .fields #[.ref l, .int 0 0] }).objs.size ∉ [s.heap.objs.size] := by
    rw [eS]; intro q; exact Nat.succ_ne_self _ (List.mem_singleton.mp q)
  have noI : ∀ b o, s.heap.get? b = some o → b ∉ [s.heap.objs.size] := fun b o e q => by
    have h := Heap.lt_size e
    rw [List.mem_singleton.mp q] at h
    exact Nat.lt_irrefl _ h
  have noB : ∀ b o, s.heap.get? b = some o → b ≠ (s.heap.push { cls := .type "list_iterator", data := .fields #[.ref l, .int 0 0] }).objs.size := fun b o e q => by
    have h := Heap.lt_size e
    rw [q, eS] at h
    exact Nat.lt_irrefl _ (Nat.lt_of_succ_lt h)
  generalize hB : (s.heap.push { cls := .type "list_iterator", data := .fields #[.ref l, .int 0 0] }).objs.size = B at *
  refine wpAny_pure ⟨plainId_quiet PySem.F.plain_min_loop _, codeAny_builtin PySem.F.entry_min_loop ?_⟩
  rw [Around.under_plainId PySem.F.plain_min_loop _]
  show wpAny _ A.in1 (seqItems? (.ref B) >>= _) _ _ _
  refine wpAny_bind (wpAny_seqItems gB rfl ?_)
  show wpAny _ A.in1 (tryCatch (pyNext (.ref s.heap.objs.size)) _ >>= _) _ _ _
  by_cases c : ns = []
  · have z0 : its.toArray.size = 0 := by rw [hsz, c]; rfl
    refine wpAny_bind (wpAny_tryCatch (W.done _ _ _ ⟨by rw [z0]; exact gI, gL⟩ fun h' tk kp => ?_))
    refine wpAny_bind (wpAny_rule (wpAny_pure ?_))
    exact k0 c h' tk fun b o e => kp b o (noI b o e) (old b o e)
  · have hpos : 0 < ns.length := List.length_pos_iff.mpr c
    refine wpAny_bind (wpAny_tryCatch (W.item 0 _ _ _ (by rw [hsz]; exact hpos) ⟨gI, gL⟩ fun v h' tk hv st' kp => ?_))
    have gB' := kp B _ nBw gB
    show wpAny _ A.in1 (updateSeq B (fun _ => #[v, v]) >>= _) _ _ _
    refine wpAny_bind (wpAny_updateSeq gB' rfl ?_)
    rw [nm]
    refine wpAny_pure ⟨plainId_quiet PySem.F.plain_min_loop _, least_on _ W (fun i => ns.getD i 0) (fun i v hv => ints_get ia (by simpa using hv)) nB (ns.length - 1) 0 _ v _ (by rw [hsz]; omega) (W.frame _ _ _ st' fun b hb o e => ?_) hv (Heap.get?_update_self _ gB' rfl) fun v' h2 t2 hp2 kp2 => ?_⟩
    · exact (Heap.get?_update_other _ _ (fun q : B = b => nB (by rw [q]; exact hb))).trans e
    · have hp3 : its[argBest (fun a b => decide (ns.getD a 0 < ns.getD b 0)) (its.toArray.size - 1)]? = some v' := by rw [← List.getElem?_toArray]; exact hp2
      obtain ⟨t, e⟩ := ints_get ia hp3
      rw [hsz, best_all ns c] at e
      subst e
      exact k1 c t h2 t2 fun b o e => kp2 b o (noI b o e) (noB b o e) ((Heap.get?_update_other _ _ (Ne.symm (noB b o e))).trans (kp b o (noI b o e) (old b o e)))
end

section
variable {X : Cx}
def minLU : List V → Hp → VK → Prop := fun xs H Q => match xs with
  | [.ref p] => (match H p with | some (.lst ys) => ∃ ns : List Int, ys = ns.map V.int ∧ ns ≠ [] ∧ Q (.int (Lf.minL ns)) H | _ => False)
  | _ => False
def minDU : List V → List V → Hp → VK → Prop := fun xs ks H Q => match xs, ks with
  | [.ref p], [d] => (match H p with | some (.lst ys) => ∃ ns : List Int, ys = ns.map V.int ∧ (ns = [] → Q d H) ∧ (ns ≠ [] → Q (.int (Lf.minL ns)) H) | _ => False)
  | _, _ => False
theorem minDU_to {xs ks : List V} {H : Hp} {Q : VK} (h : minDU xs ks H Q) : ∃ (p : Addr) (d : V) (ns : List Int), xs = [.ref p] ∧ ks = [d] ∧ H p = some (.lst (ns.map V.int)) ∧ (ns = [] → Q d H) ∧ (ns ≠ [] → Q (.int (Lf.minL ns)) H) := by
  unfold minDU at h
  split at h
  · split at h
    · obtain ⟨ns, rfl, q0, q1⟩ := h
      exact ⟨_, _, ns, rfl, rfl, ‹_›, q0, q1⟩
    · exact h.elim
  · exact h.elim
def tMinD (t tk : TA) : TE := fun σ H Q => t σ H fun vs H1 => tk σ H1 fun zs H2 => minDU vs zs H2 Q
theorem eu_minD {e d : Expr} {kp p pos : Pos} {t tk : TA} (hc : X.calm = true) (hg : Gl X "min") (hm : X.mg "min" = none) (ha : PA X [e] t) (hk : PK X [⟨some "default", d, kp⟩] tk)
    (he : backTo pos (starEach [e] X.env) = (false, eval e X.env) :: backTo pos (starEach [] X.env) := by rfl) (hpl : (backTo pos (starEach [e] X.env)).any (·.1) = false := by rfl) :
    PE X (.Call (.Name "min" p) [e] [⟨some "default", d, kp⟩] pos) (tMinD t tk) := by
  intro pins s σ H Q I h
  refine wpAny_Call_Name_kw (ld_blt I hg hm PyProof.Rows.boot_min ?_ (by decide) (by decide))
  refine PyProof.Rows.callWith_kw (thn (ha pos pins s σ H _ I h) fun us s1 ⟨vs, H1, I1, r1, q1⟩ => thn (hk pos pins s1 σ H1 _ I1 q1) fun ws s2 ⟨zs, H2, I2, r2, q2⟩ => ?_) he hpl
  obtain ⟨p0, d0, ns, rfl, rfl, hH, q0, q1⟩ := minDU_to q2
  obtain ⟨u, rfl, rx⟩ := vals1 r1
  obtain ⟨u2, rfl, rd⟩ := vals1 r2
  cases rx
  obtain ⟨its, r', pl, hz'⟩ := I2.list (.inl (.inl hH))
  have ia := ints_are r'
  exact min_or (I2.ok.hd hc) pl.isList ia (fun c h' tk kp => ⟨d0, H2, I2.kept kp, rd, q0 c⟩) fun c t h' tk kp => ⟨.int (Lf.minL ns), H2, I2.kept kp, ⟨t, rfl⟩, q1 c⟩
theorem pi_tupK {K : PySem.W.Frag} {tg l : Expr} {ta : TE} (hK : X.K = K) (hl : PE X l ta) : PI X tg l (iTup K ta) := by subst hK; exact pi_tup hl
end
theorem comp_inv {K : PySem.W.Frag} {a : Addr} {xs : List V} {fv : L2.St} {tif : TT} {te : TE} {Q : List V → Hp → Prop} {H1 : Hp} (Pv : Nat → List V → Hp → Prop) (hz : xs.length < sizeLine) (h0 : Pv 0 [] H1)
    (hq : ∀ i acc H, Pv i acc H → SqL K H a xs ∧ acc.length ≤ i)
    (hs : ∀ i x acc H, xs[i]? = some x → Pv i acc H → ∀ (Rt : V → Hp → Prop) (Rf : Hp → Prop), (∀ v H3, Pv (i + 1) (acc ++ [v]) H3 → Rt v H3) → (∀ H2, Pv (i + 1) acc H2 → Rf H2) → tif (some x :: fv) H fun b H2 => if b = true then te (some x :: fv) H2 Rt else Rf H2)
    (hd : ∀ acc H, Pv xs.length acc H → Q acc H) : CompW (Itl K a) fv tif te Q H1 := by
  refine ⟨fun i m acc H => m = xs.length - i ∧ i ≤ xs.length ∧ Pv i acc H, ⟨xs.length, by simp, Nat.zero_le _, h0⟩, ?_⟩
  rintro i m acc H ⟨rfl, hi, hp⟩
  obtain ⟨q, ln⟩ := hq i acc H hp
  by_cases hlt : i < xs.length
  · refine .inr ⟨⟨xs, xs[i], q, by simp [hlt]⟩, by omega, fun x H' y => ?_⟩
    obtain ⟨e, y⟩ := y
    subst e
    exact hs i x acc H' (y xs q) hp _ _ (fun v H3 h3 => ⟨xs.length - (i + 1), by omega, rfl, hlt, h3⟩) fun H2 h2 => ⟨xs.length - (i + 1), by omega, rfl, hlt, h2⟩
  · have e : i = xs.length := by omega
    subst e
    exact .inl ⟨⟨xs, q, Nat.le_refl _⟩, by omega, hd acc H hp⟩
theorem comp_tup {K : PySem.W.Frag} {a : Addr} {xs : List V} {fv : L2.St} {tif : TT} {te : TE} {Q : List V → Hp → Prop} {H1 : Hp} (g : V → Bool) (fn : V → V) (hq : H1 a = some (.tup xs)) (hz : xs.length ≤ sizeLine)
    (hs : ∀ x ∈ xs, ∀ H, Same H1 H → ∀ (Rt : V → Hp → Prop) (Rf : Hp → Prop), (g x = true → ∀ H3, Same H1 H3 → Rt (fn x) H3) → (g x = false → ∀ H2, Same H1 H2 → Rf H2) → tif (some x :: fv) H fun b H2 => if b = true then te (some x :: fv) H2 Rt else Rf H2)
    (hd : ∀ H, Same H1 H → Q ((xs.filter g).map fn) H) : CompW (Itt K a) fv tif te Q H1 := by
  refine ⟨fun i m acc H => m = xs.length - i ∧ i ≤ xs.length ∧ Same H1 H ∧ acc = ((xs.take i).filter g).map fn, ⟨xs.length, by simp, Nat.zero_le _, Same.refl _, by simp⟩, ?_⟩
  rintro i m acc H ⟨rfl, hi, sm, rfl⟩
  have q : SqT K H a xs := .inl (.inl (sm _ _ hq))
  have len : (((xs.take i).filter g).map fn).length ≤ i := by
    rw [List.length_map]
    exact Nat.le_trans (List.length_filter_le _ _) (by rw [List.length_take]; exact Nat.min_le_left _ _)
  by_cases hlt : i < xs.length
  · refine .inr ⟨⟨xs, xs[i], q, by simp [hlt]⟩, by omega, fun x H' y => ?_⟩
    obtain ⟨e, y⟩ := y
    subst e
    have hx := y xs q
    have tk : xs.take (i + 1) = xs.take i ++ [x] := by rw [List.take_succ, hx]; rfl
    refine hs x (List.mem_of_getElem? hx) _ sm _ _ (fun hg H3 s3 => ⟨xs.length - (i + 1), by omega, rfl, hlt, s3, ?_⟩) (fun hg H2 s2 => ⟨xs.length - (i + 1), by omega, rfl, hlt, s2, ?_⟩)
    · rw [tk, List.filter_append, List.map_append]; simp [hg]
    · rw [tk, List.filter_append, List.map_append]; simp [hg]
  · have e : i = xs.length := by omega
    subst e
    exact .inl ⟨⟨xs, q, Nat.le_refl _⟩, by omega, by rw [List.take_length]; exact hd H sm⟩
end LX

set_option Elab.async false
set_option linter.all false
set_option maxRecDepth 100000
namespace LX
open PySem PySem.W
def runT (tb : String → Option Builtin) (p : Program) (w : World) (m : Nat) (ann : Option Value) : Nat → SharedT → Thread → Option SharedT
  | 0, _, _ => none
  | n + 1, z, t => match through t with
    | true => some z
    | false => match stepOk m ann t with
      | false => none
      | true => match stepT (denote tb) p w z t with
        | some (z', t') => runT tb p w m ann n z' t'
        | none => none
theorem runT_of {tb : String → Option Builtin} {p : Program} {w : World} {m : Nat} {ann : Option Value} : ∀ {n : Nat} {z z' : SharedT} {t : Thread}, runT tb p w m ann n z t = some z' → topRun tb p w m ann n z.abs t = some z'.abs
  | 0, _, _, _, h => by cases h
  | n + 1, z, z', t, h => by
    unfold runT at h
    unfold topRun
    cases e : through t with
    | true => rw [e] at h; cases h; rfl
    | false =>
      rw [e] at h
      cases q : stepOk m ann t with
      | false => rw [q] at h; cases h
      | true =>
        rw [q] at h
        cases hs : stepT (denote tb) p w z t with
        | none => rw [hs] at h; cases h
        | some r => obtain ⟨z2, t2⟩ := r; rw [hs] at h; rw [stepT_spec hs]; exact runT_of h
def growT : List Obj → Nat → BT → BT
  | [], _, t => t
  | o :: r, n, t => growT r (n + 1) (t.ins n o)
def seenT (p q : Program) (loose : List Str) (Xt : Shared → Bool) {α : Type} (Yf : Shared → α) (H : Heap) (g0 : Bool) (s : Shared) :=
  (staticsOk (importedModules p.main.body) H s.heap && namesBound p s.heap && gensDone s && laidKept H s.heap, openSeen q loose (importedModules p.main.body) Xt g0 s, Yf s)
theorem left_of_tree {p q : Program} {loose : List Str} {Xt : Shared → Bool} {α : Type} {Yf : Shared → α} {Ya : World → α} {N : Nat} {g0 : Bool} {H₀ : Params → Heap} {gs₀ : Array GenState} {d₀ : Drawn} {k₀ : Nat} {m₀ : Nat} {ann : Option Value} {zT : World → OsState → SharedT}
    (op : ∀ w : World, (fencedOpening treeTable p w N).map (fun s => (s.heap, s.gens, s.drawn, s.toks)) = some (H₀ w.params, gs₀, d₀, k₀))
    (size : ∀ w : World, ((H₀ w.params).isNs mainGlobals && gs₀.size == 0, (H₀ w.params).objs.size, (H₀ w.params).nsMap mainGlobals "__annotations__") = (true, m₀, ann))
    (ab : ∀ w os, (zT w os).abs = ⟨H₀ w.params, gs₀, d₀, k₀, os⟩)
    (run : ∀ w : World, (fun os => (runT treeTable p w m₀ ann N (zT w os) (topStub p)).map fun z => seenT p q loose Xt Yf (H₀ w.params) g0 z.abs) = fun _ => some (true, openGood q loose, Ya w)) : LeftO p q loose Xt Yf Ya N g0 := fun w => by
  obtain ⟨⟨h, gs, d, k, os⟩, e, e'⟩ := Option.map_eq_some_iff.mp (op w)
  obtain ⟨rfl, rfl, rfl, rfl⟩ : h = H₀ w.params ∧ gs = gs₀ ∧ d = d₀ ∧ k = k₀ := by simpa using e'
  obtain ⟨z1, z2, z3⟩ : _ ∧ _ ∧ _ := by simpa only [Prod.mk.injEq] using size w
  obtain ⟨z, r0, l⟩ := Option.map_eq_some_iff.mp (congrFun (run w) os)
  have r := runT_of r0
  rw [ab] at r
  obtain ⟨l1, l2, l3⟩ : _ ∧ _ ∧ _ := by simpa only [seenT, Prod.mk.injEq] using l
  have t : topFrom treeTable p w N ⟨H₀ w.params, gs, d, k, os⟩ = some z.abs := by
    unfold topFrom
    dsimp only
    rw [z1, z2, z3, r]
    show (match staticsOk (importedModules p.main.body) (H₀ w.params) z.abs.heap && namesBound p z.abs.heap && gensDone z.abs && laidKept (H₀ w.params) z.abs.heap with | true => _ | false => _) = _
    rw [l1]
  unfold openEnds
  rw [e]
  show (topFrom treeTable p w N _).map _ = _
  rw [t]
  exact congrArg some (Prod.ext l2 l3)
noncomputable def zBoot (m : Nat) (w : World) (os : OsState) : SharedT := ⟨growT (boot_heap w.params).objs.toList 0 .nil, m, (boot_heap w.params).life, Array.mk [], boot_drawn, boot_toks, os⟩
end LX

set_option Elab.async false
set_option linter.all false
set_option maxRecDepth 100000
namespace LX
open PySem PySem.Spec PyProof.Rows L2
section
variable {P : Program} {w : World} {H : Hp} {h : Heap} {ea b : Addr} {oe : Obj} {φ : Heap → Prop}
end
section
variable {X : Cx} {k : Nat} {f : Addr} {fd : FuncData} {ps : List Str} {sp : Sp} {ea : Addr} {oe : Obj} {x : Str} {p pos : Pos} {e : Expr} {es : List Expr} {t : TA}
end
section
variable {X : Cx} {c n : Str} {np pos : Pos} {b₀ : Stmt} {suite : List Stmt} {rest : List ExceptHandler} {C : Addr} {tr : Value → TS}
end
end LX

set_option Elab.async false
set_option linter.all false
set_option maxRecDepth 100000
namespace LX
open PySem PySem.Spec PyProof.Rows L2
def Itd (lo : Int) (n : Nat) : It := ⟨fun i _ => i < n, fun i H x H' => H' = H ∧ x = .int (lo - i), fun i _ => n ≤ i⟩
theorem turn_down {P : Program} {w : World} {K : PySem.W.Frag} {tg : Expr} (it : Addr) (lo : Int) (n : Nat) : Turn P w K tg (Itd lo n) [it] it (fun i h => IsRangeIter h it (lo + (i : Nat) * (-1)) ((n : Int) - (i : Nat)) (-1)) where
  mem := by simp
  obj := fun i h st b hb => by
    have e : b = it := by simpa using hb
    subst e
    exact ⟨_, st, fun v z => by
      have z' : Data.fields _ = Data.cell v := z
      cases z'⟩
  keep := fun i h h' st k => k it (by simp) _ st
  item := by
    intro X hP hw hK hc i pins s σ H E I hf st hg
    subst hP hw hK
    obtain ⟨f0, f1, f2, f3, f4, f5⟩ := hf it (by simp)
    have W := Walks.range (prog := X.prog) (w := X.w) (I.ok.hd hc) it lo (-1) n
    refine W.item i s _ _ hg st fun v h' tk hv st' kk => ?_
    obtain ⟨t, rfl⟩ := hv
    have I1 : Inv X pins σ H { s with heap := h', toks := tk } := I.turned (fun b o hb e => kk b o (by simpa using hb) e) f0 f1 f3 f4 f5
    refine ⟨_, rfl, go_of (s := { s with heap := h', toks := tk }) (n := "range_iterator") st' rfl rfl (by decide) ⟨.int (lo - i), H, I1, ⟨t, ?_⟩, ⟨rfl, rfl⟩, st', fun b hb => (hf b hb).1⟩⟩
    rw [show lo + (i : Int) * (-1) = lo - (i : Int) by omega]
  done := by
    intro X hP hw hK hc i pins s σ H E I hf st hg
    subst hP hw hK
    obtain ⟨f0, f1, f2, f3, f4, f5⟩ := hf it (by simp)
    exact wpAny_pyNext_range_end (I.ok.hd hc) st (by have : n ≤ i := hg; omega) fun h' eb => ⟨rfl, I.turned (t' := s.toks) (fun b o hb e => eb b o hb e) f0 f1 f3 f4 f5⟩
  self := fun _ _ _ _ _ st h => wpAny_pyIter_rangeiter st h
theorem rangeSize_down (a b : Int) : Builtin.Range.rangeSize a b (-1) = if b < a then a - b else 0 := by
  unfold Builtin.Range.rangeSize
  simp only [show ¬ ((-1 : Int) > 0) by decide, if_false]
  split <;> simp <;> omega
theorem small_down {a b : Int} (h1 : 0 ≤ b) (h2 : b ≤ a) (h3 : a ≤ 1000) : Builtin.Range.small a b (-1) = true := by
  unfold Builtin.Range.small
  rw [rangeSize_down]
  simp only [Builtin.Range.rangeFitsLong, Bool.and_eq_true, Bool.or_eq_true, decide_eq_true_eq, beq_iff_eq]
  split <;> simp <;> omega
section
variable {X : Cx} {tg : Expr}
def iRngD (ta : TA) : TI := fun σ H R => ta σ H fun vs H1 => ∃ i j : Int, vs = [.int i, .int j, .int (-1)] ∧ (0 ≤ j ∧ j ≤ i ∧ i ≤ 1000) ∧ R (Itd i (i - j).toNat) H1
theorem pi_rangeD {a b c : Expr} {ta : TA} {p pos : Pos} (hg : Gl X "range") (hm : X.mg "range" = none) (ha : PA X [a, b, c] ta) (hs : starEach [a, b, c] X.env = [(false, eval a X.env), (false, eval b X.env), (false, eval c X.env)] := by rfl) (hs2 : starEach [b, c] X.env = [(false, eval b X.env), (false, eval c X.env)] := by rfl) :
    PI X tg (.Call (.Name "range" p) [a, b, c] [] pos) (iRngD ta) := by
  intro pins s σ H R I h
  refine Call_ (ld_blt I hg hm boot_range (PyProof.Rows.callWith_type1 (thn (ha pos pins s σ H _ I h) fun us s1 ⟨vs, H1, I1, r1, q1⟩ => ?_) (by rw [hs, hs2]) (by rw [hs2]; rfl)))
  obtain ⟨i, j, e, ⟨q1, q2, q3⟩, q⟩ := q1
  subst e
  cases r1 with
  | cons r rr =>
    cases rr with
    | cons r' rr =>
      cases rr with
      | cons r'' rr =>
        cases rr
        obtain ⟨t, rfl⟩ := r
        obtain ⟨t', rfl⟩ := r'
        obtain ⟨t'', rfl⟩ := r''
        refine call_range_3 (by decide) ?_ (Or.inl (PyProof.noPylong_small (by omega)))
        refine wpAny_pyIter_range (IsRange.new ..) (small_down q1 q2 q3) ?_
        have I2 : Inv X pins σ H1 { s1 with heap := s1.heap.push { cls := .type "range", data := .fields #[.int i t, .int j t', .int (-1) t''] } } := I1.kept (t' := s1.toks) fun b o e => Heap.get?_push_of_some _ e
        refine ⟨(s1.heap.push { cls := .type "range", data := .fields #[.int i t, .int j t', .int (-1) t''] }).objs.size, [(s1.heap.push { cls := .type "range", data := .fields #[.int i t, .int j t', .int (-1) t''] }).objs.size], _, _, H1, rfl,
          I2.kept (t' := s1.toks) fun b o e => Heap.get?_push_of_some _ e, turn_down _ i (i - j).toNat, ?_, fun b hb => ?_, q⟩
        · have e1 : i + ((0 : Nat) : Int) * (-1) = i := by simp
          have e2 : (((i - j).toNat : Nat) : Int) - ((0 : Nat) : Int) = Builtin.Range.rangeSize i j (-1) := by rw [rangeSize_down]; split <;> omega
          show IsRangeIter _ _ (i + ((0 : Nat) : Int) * (-1)) ((((i - j).toNat : Nat) : Int) - ((0 : Nat) : Int)) (-1)
          rw [e1, e2]
          exact Heap.get?_push_size _ rfl
        · have e : b = (s1.heap.push { cls := .type "range", data := .fields #[.int i t, .int j t', .int (-1) t''] }).objs.size := by simpa using hb
          subst e
          exact I2.fpOk (Nat.le_refl _) (I2.hok.fresh (Nat.le_refl _))
end
theorem for_down {lo : Int} {n : Nat} {g : TG} {tb : TS} {D : Ends} {σ : L2.St} {H : Hp} (Pv : Nat → L2.St → Hp → Prop) (h0 : Pv 0 σ H)
    (hs : ∀ i σ H, i < n → Pv i σ H → g (.int (lo - i)) σ H fun σ2 H2 => tb { D with nx := Pv (i + 1), ct := Pv (i + 1), bk := D.nx } σ2 H2) (hd : ∀ σ H, Pv n σ H → D.nx σ H) :
    ∃ W : Nat → Nat → L2.St → Hp → Prop, (∃ m, W 0 m σ H) ∧ ∀ i m σ H, W i m σ H →
      ((Itd lo n).stop i H ∧ D.nx σ H) ∨ ((Itd lo n).go i H ∧ ∃ N : L2.St → Hp → Prop, (∀ σ' H', N σ' H' → ∃ m', m' < m ∧ W (i + 1) m' σ' H') ∧ ∀ x H', (Itd lo n).yld i H x H' → g x σ H' fun σ2 H2 => tb { D with nx := N, ct := N, bk := D.nx } σ2 H2) := by
  refine ⟨fun i m σ H => m = n - i ∧ i ≤ n ∧ Pv i σ H, ⟨n, by simp, Nat.zero_le _, h0⟩, ?_⟩
  rintro i m σ H ⟨rfl, hi, p⟩
  by_cases hlt : i < n
  · refine .inr ⟨hlt, Pv (i + 1), fun σ' H' p' => ⟨n - (i + 1), by omega, rfl, hlt, p'⟩, fun x H' y => ?_⟩
    obtain ⟨e, y⟩ := y
    subst e y
    exact hs i σ _ hlt p
  · have e : i = n := by omega
    subst e
    exact .inl ⟨Nat.le_refl _, hd σ H p⟩
def Ite (K : PySem.W.Frag) (a : Addr) : It :=
  ⟨fun i H => ∃ xs x, SqL K H a xs ∧ xs[i]? = some x, fun i H x H' => ∃ T y, x = .ref T ∧ H T = none ∧ H' = upd H T (.tup [.int (i : Int), y]) ∧ ∀ xs, SqL K H a xs → xs[i]? = some y, fun i H => ∃ xs, SqL K H a xs ∧ xs.length ≤ i⟩
theorem turn_enum {P : Program} {w : World} {K : PySem.W.Frag} {elts : List Expr} {k : Nat} {pos : Pos} (a e it : Addr) (hne : e ≠ it) : Turn P w K (.Tuple elts k pos) (Ite K a) [e, it] e (fun i h => (∃ old, IsEnum h e it (i : Int) old) ∧ h.IsListIter it a i) where
  mem := by simp
  obj := fun i h st b hb => by
    obtain ⟨⟨old, he⟩, o, e1, c, d⟩ := st
    have hb' : b = e ∨ b = it := by simpa using hb
    rcases hb' with rfl | rfl
    · exact ⟨_, he, fun v z => by
        have z' : Data.fields _ = Data.cell v := z
        cases z'⟩
    · exact ⟨o, e1, fun v z => by rw [d] at z; cases z⟩
  keep := fun i h h' st k => by
    obtain ⟨⟨old, he⟩, hi⟩ := st
    exact ⟨⟨old, k e (by simp) _ he⟩, hi.at fun o e => k it (by simp) o e⟩
  item := by
    intro X hP hw hK hc i pins s σ H E I hf st hg
    subst hP hw hK
    obtain ⟨⟨old, he⟩, hi⟩ := st
    obtain ⟨xs, x, hq, hx⟩ := hg
    obtain ⟨its, rv, p, hz⟩ := I.list hq
    obtain ⟨u, hu, ru⟩ := rv.get hx
    obtain ⟨f0, f1, f2, f3, f4, f5⟩ := hf e (by simp)
    obtain ⟨g0, g1, g2, g3, g4, g5⟩ := hf it (by simp)
    refine wpAny_pyNext_enum_item he hi p.isList (x := u) (by simpa using hu) hne fun h' hE hI hT hsz hk => ?_
    refine ⟨_, rfl, wpAny_letOwnedTupleGo_enum hE fun h2 hE2 hs2 => ?_⟩
    have Tn : H s.heap.objs.size = none := I.hok.fresh (Nat.le_refl _)
    have elt : e < s.heap.objs.size := Heap.lt_size he
    have ilt : it < s.heap.objs.size := let ⟨_, z, _⟩ := hi; Heap.lt_size z
    have kp : ∀ b o, b ≠ e → b ≠ it → s.heap.get? b = some o → h2.get? b = some o := fun b o n1 n2 q => (hs2.2 b n1).trans (hk b o n1 n2 q)
    have hT2 : h2.get? s.heap.objs.size = some { cls := .type "tuple", data := .seq #[.int (i : Int) s.toks, u] } := (hs2.2 _ (Nat.ne_of_gt elt)).trans hT
    have un : Un (frs X.stack) [e, it] H (upd H s.heap.objs.size (.tup [.int (i : Int), x])) s.heap h2 := by
      refine ⟨fun b o q n hb hx => kp b o (fun z => hx (by simp [z])) (fun z => hx (by simp [z])) q, fun b o q n hb hx => ⟨o.slots, kp b o (fun z => hx (by simp [z])) (fun z => hx (by simp [z])) q⟩, fun b o q n hx => ?_, fun b o q hx => ⟨o, kp b o (fun z => hx (by simp [z])) (fun z => hx (by simp [z])) q⟩, fun b xs q => ?_, fun b o u q => ?_, fun b ps q => ⟨#[], ?_⟩⟩
      · rw [upd_ne (Nat.ne_of_lt (Heap.lt_size q))]; exact n
      · rw [upd_ne (ne_of_none q Tn)]; exact q
      · rw [upd_ne (ne_of_none q Tn)]; exact q
      · rw [upd_ne (ne_of_none q Tn), q]; simp
    have ok : HOk X.prog X.w (upd H s.heap.objs.size (.tup [.int (i : Int), x])) h2 := fun b o q => by
      by_cases hb : b = s.heap.objs.size
      · subst hb
        rw [upd_same] at q; cases q
        exact ⟨by show 2 ≤ sizeLine; decide, [.int (i : Int) s.toks, u], .cons ⟨_, rfl⟩ (.cons ru .nil), ⟨_, hT2, rfl, _, rfl⟩⟩
      · rw [upd_ne hb] at q
        refine (I.hok b o q).stay (fun c v hc r => ?_) (fun c r => by rw [upd_ne (ne_of_none r Tn)]; exact r) fun c ys r => by rw [upd_ne (ne_of_none r Tn)]; exact r
        rcases hc with z | z
        · rw [z] at r ⊢; exact kp b v (ne_of_none q f0) (ne_of_none q g0) r
        · exact kp c v (ne_of_none z f0) (ne_of_none z g0) r
    have I2 : Inv X pins σ (upd H s.heap.objs.size (.tup [.int (i : Int), x])) { s with heap := h2, toks := s.toks + 1 } := I.call (g' := s.gens) (d' := s.drawn) (t' := s.toks + 1) un ok I.bare fun b hb => by
      have hb' : b = e ∨ b = it := by simpa using hb
      rcases hb' with rfl | rfl
      · exact ⟨f3, f1, f4, f5⟩
      · exact ⟨g3, g1, g4, g5⟩
    refine ⟨.ref s.heap.objs.size, _, I2, rfl, ⟨_, x, rfl, Tn, rfl, fun ys hy => by rw [I.list_inj hy hq]; exact hx⟩, ⟨⟨_, by show IsEnum h2 e it ((i + 1 : Nat) : Int) _; rw [show ((i + 1 : Nat) : Int) = (i : Int) + 1 by omega]; exact hE2⟩, hI.at fun o q => (hs2.2 it hne.symm).trans q⟩, fun b hb => ?_⟩
    have hb' : b = e ∨ b = it := by simpa using hb
    rcases hb' with rfl | rfl
    · rw [upd_ne (Nat.ne_of_lt elt)]; exact f0
    · rw [upd_ne (Nat.ne_of_lt ilt)]; exact g0
  done := by
    intro X hP hw hK hc i pins s σ H E I hf st hg
    subst hP hw hK
    obtain ⟨⟨old, he⟩, hi⟩ := st
    obtain ⟨xs, hq, hx⟩ := hg
    obtain ⟨its, rv, p, hz⟩ := I.list hq
    obtain ⟨g0, g1, g2, g3, g4, g5⟩ := hf it (by simp)
    have hl := rv.length
    exact wpAny_pyNext_enum_end (I.ok.hd hc) he hi p.isList (by simp; omega) fun h' eb => ⟨rfl, I.turned (t' := s.toks) (fun b o hb e => eb b o hb e) g0 g1 g3 g4 g5⟩
  self := fun _ _ _ _ _ st h => let ⟨⟨_, he⟩, _⟩ := st; wpAny_pyIter_enum he h
section
variable {X : Cx}
def iEnum (K : PySem.W.Frag) (ta : TA) : TI := fun σ H R => ta σ H fun vs H1 => ∃ a, vs = [.ref a] ∧ (∃ xs, SqL K H1 a xs) ∧ R (Ite K a) H1
theorem pi_enum {elts : List Expr} {k : Nat} {tpos : Pos} {a : Expr} {ta : TA} {p pos : Pos} {K : PySem.W.Frag} (hK : X.K = K) (hg : Gl X "enumerate") (hm : X.mg "enumerate" = none) (ha : PA X [a] ta) (hs : starEach [a] X.env = [(false, eval a X.env)] := by rfl) :
    PI X (.Tuple elts k tpos) (.Call (.Name "enumerate" p) [a] [] pos) (iEnum K ta) := by
  subst hK
  intro pins s σ H R I h
  refine Call_ (ld_blt I hg hm PyProof.Rows.boot_enumerate (PyProof.Rows.callWith_type1 (thn (ha pos pins s σ H _ I h) fun us s1 ⟨vs, H1, I1, r1, q1⟩ => ?_) (by rw [hs]; rfl) (by rfl)))
  obtain ⟨l, e, ⟨xs, hq⟩, q⟩ := q1
  subst e
  cases r1 with
  | cons r rr =>
    cases rr
    cases r
    obtain ⟨its, rv, p, hz⟩ := I1.list hq
    refine call_enumerate_list p.isList fun h' hE hI hsz hk => ?_
    refine wpAny_pyIter_enum hE ?_
    have I2 : Inv X pins σ H1 { s1 with heap := h' } := I1.kept (t' := s1.toks) hk
    refine ⟨s1.heap.objs.size + 1, [s1.heap.objs.size + 1, s1.heap.objs.size], _, _, H1, rfl, I2, turn_enum l _ s1.heap.objs.size (Nat.succ_ne_self _), ⟨⟨_, hE⟩, hI⟩, fun b hb => ?_, q⟩
    have hb' : b = s1.heap.objs.size + 1 ∨ b = s1.heap.objs.size := by simpa using hb
    have hle : s1.heap.objs.size ≤ b := by rcases hb' with rfl | rfl <;> omega
    exact I1.fpOk hle (I1.hok.fresh hle)
end
theorem for_enum {K : PySem.W.Frag} {a : Addr} {xs : List V} {g : TG} {tb : TS} {D : Ends} {σ : L2.St} {H : Hp} (Pv : Nat → L2.St → Hp → Prop) (h0 : Pv 0 σ H) (hl : ∀ i σ H, i ≤ xs.length → Pv i σ H → SqL K H a xs)
    (hs : ∀ i x σ H T, xs[i]? = some x → Pv i σ H → H T = none → g (.ref T) σ (upd H T (.tup [.int (i : Int), x])) fun σ2 H2 => tb { D with nx := Pv (i + 1), ct := Pv (i + 1), bk := D.nx } σ2 H2) (hd : ∀ σ H, Pv xs.length σ H → D.nx σ H) :
    ∃ W : Nat → Nat → L2.St → Hp → Prop, (∃ m, W 0 m σ H) ∧ ∀ i m σ H, W i m σ H →
      ((Ite K a).stop i H ∧ D.nx σ H) ∨ ((Ite K a).go i H ∧ ∃ N : L2.St → Hp → Prop, (∀ σ' H', N σ' H' → ∃ m', m' < m ∧ W (i + 1) m' σ' H') ∧ ∀ x H', (Ite K a).yld i H x H' → g x σ H' fun σ2 H2 => tb { D with nx := N, ct := N, bk := D.nx } σ2 H2) := by
  refine ⟨fun i m σ H => m = xs.length - i ∧ i ≤ xs.length ∧ Pv i σ H, ⟨xs.length, by simp, Nat.zero_le _, h0⟩, ?_⟩
  rintro i m σ H ⟨rfl, hi, p⟩
  have q := hl i σ H hi p
  by_cases hlt : i < xs.length
  · refine .inr ⟨⟨xs, xs[i], q, by simp [hlt]⟩, Pv (i + 1), fun σ' H' p' => ⟨xs.length - (i + 1), by omega, rfl, hlt, p'⟩, fun x H' y => ?_⟩
    obtain ⟨T, y, rfl, hT, rfl, hy⟩ := y
    exact hs i y σ H T (hy xs q) p hT
  · have e : i = xs.length := by omega
    subst e
    exact .inl ⟨⟨xs, q, Nat.le_refl _⟩, hd σ H p⟩
end LX
namespace LX
open PySem PySem.Spec PyProof.Rows L2
theorem pg_tupK {X : Cx} {K : PySem.W.Frag} {es : List Expr} {k : Nat} {t : TGs} {n : Nat} {pos : Pos} (hK : X.K = K) (hc : X.calm = true) (h : PGs X es t)
    (hn : (assignEach es X.env).length = n := by rfl) (hst : (assignEach es X.env).findIdx? (·.1) = none := by rfl) : PG X (.Tuple es k pos) (gTup K n t) := by subst hK; exact pg_tup hc h hn hst
end LX

set_option Elab.async false
set_option linter.all false
set_option maxRecDepth 100000
namespace LX
open PySem PySem.Spec PyProof.Rows L2 PySem.W
def lamCx (X : Cx) (qual : Str) (scope : Scope) (cl : List (Str × Addr)) (f : Addr) (cd : Value) (N : List Str) (A : Around) (s : Shared) (H : Hp) : Cx where
  prog := X.prog
  w := X.w
  K := X.K
  mg := X.mg
  base := X.base
  A := A.deeper (envX qual scope s.heap.objs.size f cd cl)
  N := N
  s₀ := s
  H₀ := H
  env := envX qual scope s.heap.objs.size f cd cl
  outer := X.stack
  stack := envX qual scope s.heap.objs.size f cd cl :: X.stack
  ex := []
  fn := fun _ => false
  calm := true
  pn := []
  xe := fun _ _ => False
theorem cx_lam {X : Cx} {qual : Str} {scope : Scope} {cl : List (Str × Addr)} {f : Addr} {cd : Value} {N : List Str} {A : Around} {s : Shared} {H : Hp} : (lamCx X qual scope cl f cd N A s H).K = X.K := rfl
section
variable {X : Cx} {pins : List (Addr × Obj)} {σ : L2.St} {H : Hp} {s : Shared} {A : Around} {qual name : Str} {scope : Scope} {params : Arguments} {body : Expr} {cl : List (Str × Addr)} {f : Addr} {cd pm ctv : Value} {x : Str} {fv : List Str} {ixs : List Nat} {te : TE} {v : V} {u : Value} {k : Nat}
theorem lam_start {h1 : Heap} {tk : Nat} (I : Inv X pins σ H s) (ok : CompOk scope x fv X.env.scope) (hix : ixs.map (fun k => X.N[k]?) = fv.map some)
    (hcl1 : ∀ y c, cl.lookup y = some c → X.env.cells.lookup y = some c) (hcl2 : ∀ y, (y, NameKind.free) ∈ scope.names → cl.lookup y = X.env.cells.lookup y)
    (hA : A.frames = some X.stack) (hh : A.handled = none) (k1 : ∀ b o, s.heap.get? b = some o → h1.get? b = some o) (hm : h1.Ns s.heap.objs.size (fun y => [(x, u)].reverse.lookup y)) (rv : RelV v u) :
    Inv (lamCx X qual scope cl f cd (x :: fv) A s H) [] (some v :: fvals ixs σ) H { s with heap := h1, toks := tk } := by
  have o := I.ok
  have fresh : ∀ a, s.heap.objs.size ≤ a → H a = none := fun a ha => I.hok.fresh ha
  have lenf : fv.length = ixs.length := by have := congrArg List.length hix; simpa using this.symm
  refine ⟨⟨o.mod, ok.kind, rfl, rfl, Nat.le_refl _, fun y z c e1 e2 => o.inj y z c (hcl1 y c e1) (hcl1 z c e2), fun y hy => ?_, fun y c h => (nomatch (show false = true from h)), fun _ => hh, Around.frames_deeper hA, .inr ⟨rfl, rfl⟩, (fun b hb => (nomatch hb)), I.bs, Nat.le_trans o.bsz I.sz, (fun b ob e hb => (nomatch hb)), (fun b hb => (nomatch hb)), I.stack, I.stkFree⟩,
    rfl, I.bare, Un.kept k1, ⟨_, hm, fun i y v' e1 e2 e3 => ?_⟩, fun y c e => ?_, fresh _ (Nat.le_refl _), fun y c e => I.freeC y c (hcl1 y c e), (fun p hp => (nomatch hp)), I.hok.kept k1, ?_⟩
  · have hy' : scope.names.lookup y = some .cell ∨ scope.names.lookup y = some .free := hy
    have hmem : (y, NameKind.free) ∈ scope.names := by
      rcases hy' with z | z
      · exact absurd rfl (ok.nocell _ (PySem.mem_of_lookup z))
      · exact PySem.mem_of_lookup z
    obtain ⟨c, e⟩ := o.has y (ok.free _ hmem rfl)
    exact ⟨c, by rw [show (lamCx X qual scope cl f cd (x :: fv) A s H).env.cells = cl from rfl, hcl2 y hmem]; exact e⟩
  · cases i with
    | zero =>
      have e1' : x = y := by simpa [lamCx] using e1
      have e2' : v = v' := by simpa using e2
      subst e1' e2'
      exact ⟨u, rv, .inl ⟨ok.var, by simp⟩⟩
    | succ i =>
      have e1' : fv[i]? = some y := by simpa [lamCx] using e1
      have e2' : (fvals ixs σ)[i]? = some (some v') := by simpa using e2
      have hi : i < ixs.length := by rw [← lenf]; exact (List.getElem?_eq_some_iff.mp e1').1
      have hk : X.N[ixs[i]]? = some y := by
        have := congrArg (fun l => l[i]?) hix
        simp only [List.getElem?_map] at this
        rw [e1', List.getElem?_eq_getElem hi] at this
        simpa using this
      have hv : σ[ixs[i]]? = some (some v') := by
        unfold fvals at e2'
        rw [List.getElem?_map, List.getElem?_eq_getElem hi] at e2'
        simp only [Option.map_some, Option.some.injEq] at e2'
        cases q : σ[ixs[i]]? with
        | none => rw [q] at e2'; cases e2'
        | some z => rw [q] at e2'; cases z with
          | none => cases e2'
          | some z' => cases e2'; rfl
      obtain ⟨hmem, hfr⟩ := ok.fv y (List.mem_of_getElem? e1')
      have hXk := ok.free _ hmem rfl
      obtain ⟨m0, hn0, hl0⟩ := I.loc
      obtain ⟨u', r, l⟩ := hl0 _ y v' hk hv (by rcases hXk with z | z; exact .inr (.inl z); exact .inr (.inr z))
      refine ⟨u', r, ?_⟩
      rcases l with ⟨k, _⟩ | ⟨_, c, e, ⟨oc, hoc, hocd⟩⟩
      · have k' : X.env.scope.names.lookup y = some .local := k
        rcases hXk with z | z <;> (rw [show X.env.scope.names.lookup y = _ from z] at k'; cases k')
      · exact .inr ⟨.inr hfr, c, by rw [show (lamCx X qual scope cl f cd (x :: fv) A s H).env.cells = cl from rfl, hcl2 y hmem]; exact e, ⟨oc, k1 _ _ hoc, hocd⟩⟩
  · obtain ⟨v', oc, hoc, hocd⟩ := I.cell y c (hcl1 y c e)
    exact ⟨v', oc, k1 _ _ hoc, hocd⟩
  · show (some v :: fvals ixs σ).length = (x :: fv).length
    unfold fvals
    simp [lenf]
theorem lam_run {fo : Obj} {Q : VK} (I : Inv X pins σ H s) (ok : CompOk scope x fv X.env.scope) (hix : ixs.map (fun k => X.N[k]?) = fv.map some)
    (hcl1 : ∀ y c, cl.lookup y = some c → X.env.cells.lookup y = some c) (hcl2 : ∀ y, (y, NameKind.free) ∈ scope.names → cl.lookup y = X.env.cells.lookup y)
    (hA : A.frames = some X.stack) (hr : Room (k + 1) A) (ho : s.heap.get? f = some fo) (hd : fo.data = .func (kla_fn name qual params body scope cl pm cd ctv)) (hcd : s.heap.CodeRec cd qual)
    (hb : bindArgs (kla_fn name qual params body scope cl pm cd ctv) ⟨[u], []⟩ = pure [(x, u)]) (hco : scope.isCoroutine = false) (hgen : scope.isGenerator = false)
    (he : ∀ s H, Room k (A.deeper (envX qual scope s.heap.objs.size f cd cl)) → PE (lamCx X qual scope cl f cd (x :: fv) A s H) body te) (rv : RelV v u) (h : te (some v :: fvals ixs σ) H Q) :
    codeAny (model X.prog X.w) A (.call (.ref f) ⟨[u], []⟩) (fun r s' => match r with | .ok (.ret u') => CE X.stack X.prog X.w H s Q u' s' | _ => False) s := by
  refine kla_callFunE hr.depth ho hd hco hgen rfl hcd ?_
  rw [hb]
  refine wpAny_pure (wpAny_newFunctionEnv ok.nocell (fun y hy => by rw [List.mem_singleton.mp hy]; exact ok.var) (fun h1 hns hsb => ⟨I.nolimit.fresh _ hsb, ?_⟩) ok.kind)
  show codeAny _ _ (.expr body (envX qual scope s.heap.objs.size f cd cl)) _ _
  have k1 : ∀ b o, s.heap.get? b = some o → h1.get? b = some o := fun b o e => hsb.extBut b o (Nat.ne_of_lt (Heap.lt_size e)) (Heap.get?_push_of_some _ e)
  refine kla_codeExpr (wpAny_mono (he s H (hr.deeper _) [] _ (some v :: fvals ixs σ) H Q (lam_start I ok hix hcl1 hcl2 hA hr.hd k1 hns rv) h) (fun u' s' ⟨v', H', J, rv', q⟩ => ?_) fun _ _ z => z.elim)
  exact ⟨v', H', J.os, J.bare, J.base, J.hok, rv', q⟩
theorem lam_turn {fo : Obj} {Q : VK} {E : Value → Shared → Prop} {fp : List Addr} (I : Inv X pins σ H s) (hf : ∀ b ∈ fp, FpOk X pins H b) (hob : ∀ b ∈ fp, ∃ o, s.heap.get? b = some o ∧ ∀ v, o.data ≠ .cell v)
    (ok : CompOk scope x fv X.env.scope) (hix : ixs.map (fun k => X.N[k]?) = fv.map some)
    (hcl1 : ∀ y c, cl.lookup y = some c → X.env.cells.lookup y = some c) (hcl2 : ∀ y, (y, NameKind.free) ∈ scope.names → cl.lookup y = X.env.cells.lookup y)
    (hA : A.frames = some X.stack) (hr : Room (k + 1) A) (ho : s.heap.get? f = some fo) (hd : fo.data = .func (kla_fn name qual params body scope cl pm cd ctv)) (hcd : s.heap.CodeRec cd qual)
    (hb : bindArgs (kla_fn name qual params body scope cl pm cd ctv) ⟨[u], []⟩ = pure [(x, u)]) (hco : scope.isCoroutine = false) (hgen : scope.isGenerator = false)
    (he : ∀ s H, Room k (A.deeper (envX qual scope s.heap.objs.size f cd cl)) → PE (lamCx X qual scope cl f cd (x :: fv) A s H) body te) (rv : RelV v u) (h : te (some v :: fvals ixs σ) H Q) :
    wpAny (model X.prog X.w) A (call (.ref f) [u]) (fun u' s' => ∃ v' H', Inv X pins σ H' s' ∧ RelV v' u' ∧ Q v' H' ∧ (∀ b ∈ fp, FpOk X pins H' b) ∧ ∀ b ∈ fp, ∀ o, s.heap.get? b = some o → s'.heap.get? b = some o) E s := by
  have I' := I.pinned hf hob
  refine wpAny_call (codeAny_mono (lam_run I' ok hix hcl1 hcl2 hA hr ho hd hcd hb hco hgen he rv h) fun r s' hq => ?_)
  cases r with
  | error e => exact hq.elim
  | ok fl =>
    cases fl with
    | ret u' =>
      obtain ⟨v', H', J, rv', q⟩ := I'.after hq
      have pin : ∀ b ∈ fp, ∀ o, s.heap.get? b = some o → s'.heap.get? b = some o ∧ H' b = none := fun b hb o e =>
        let z := J.pin (b, o) (List.mem_append_right _ (List.mem_append_right _ (mem_pinsAt hb e)))
        ⟨z.1, z.2.1⟩
      refine ⟨v', H', J.unpinned, rv', q, fun b hb => ⟨?_, (hf b hb).2⟩, fun b hb o e => (pin b hb o e).1⟩
      obtain ⟨o, e, _⟩ := hob b hb
      exact (pin b hb o e).2
    | next => exact hq.elim
    | brk => exact hq.elim
    | cont => exact hq.elim
end
def recAt (c : Addr) (qual : Str) : HO := .ext fun h => h.CodeRec (.ref c) qual
def TabIn (tb : Addr) (ln co : Nat) (qual : Str) (c : Addr) (H : Hp) : Prop := H tb = some (.tbl #[rawInt ln, rawInt co, .ref c]) ∧ H c = some (recAt c qual)
def Tab (tb : Addr) (ln co : Nat) (qual : Str) (H : Hp) : Prop := H tb = some (.tbl #[]) ∨ ∃ c, TabIn tb ln co qual c H
def MinW (l c : Addr) (qual : Str) (te : TE) (fv : L2.St) (xs : List V) (Q : VK) (H : Hp) : Prop := ∃ Pv : Nat → V → Int → Hp → Prop,
  (∀ i b kb H', Pv i b kb H' → H' l = some (.lst xs) ∧ H' c = some (recAt c qual)) ∧
  (∀ x, xs[0]? = some x → te (some x :: fv) H fun kv H' => ∃ k, kv = .int k ∧ Pv 1 x k H') ∧
  (∀ i x b kb H', 1 ≤ i → xs[i]? = some x → Pv i b kb H' → te (some x :: fv) H' fun kv H2 => ∃ k, kv = .int k ∧ (k < kb → Pv (i + 1) x k H2) ∧ (¬ k < kb → Pv (i + 1) b kb H2)) ∧
  ∀ b kb H', Pv xs.length b kb H' → Q b H'
def tMinLam (tb : Addr) (ln co : Nat) (qual : Str) (ta : TA) (ixs : List Nat) (te : TE) : TE := fun σ H Q => ta σ H fun vs H1 => ∃ l xs, vs = [.ref l] ∧ H1 l = some (.lst xs) ∧ 0 < xs.length ∧ xs.length ≤ 1000 ∧ Tab tb ln co qual H1 ∧
  ∀ c H2, But [tb] H1 H2 → TabIn tb ln co qual c H2 → H2 l = some (.lst xs) → MinW l c qual te (fvals ixs σ) xs Q H2
section
variable {X : Cx} {pins : List (Addr × Obj)} {σ : L2.St} {H : Hp} {s : Shared}
theorem rec_ok {c : Addr} {qual : Str} {h : Heap} (r : h.CodeRec (.ref c) qual) : (h.CodeRec (.ref c) qual) ∧ (∃ o, h.get? c = some o) ∧ ∀ h1 h2 : Heap, h1.CodeRec (.ref c) qual → (∀ o, h1.get? c = some o → h2.get? c = some o) → h2.CodeRec (.ref c) qual := by
  refine ⟨r, ?_, fun h1 h2 r1 k => ?_⟩
  · obtain ⟨c', oc, vs, tq, e, hoc, _⟩ := r
    cases e
    exact ⟨oc, hoc⟩
  · obtain ⟨c', oc, vs, tq, e, hoc, z⟩ := r1
    cases e
    exact ⟨c, oc, vs, tq, rfl, k _ hoc, z⟩
theorem tab_grow {tb c : Addr} {ln co : Nat} {qual : Str} {h' : Heap} {tk : Nat} (I : Inv X pins σ H s) (e : H tb = some (.tbl #[])) (hx : Heap.ExtBut tb s.heap h') (hc : s.heap.objs.size ≤ c) (hr : h'.CodeRec (.ref c) qual) (ht : h'.get? tb = some (tabObj (#[] ++ #[rawInt ln, rawInt co, .ref c]))) :
    Inv X pins σ (upd (upd H tb (.tbl #[rawInt ln, rawInt co, .ref c])) c (recAt c qual)) { s with heap := h', toks := tk } := by
  have cn : H c = none := I.hok.fresh hc
  have ct : tb ≠ c := ne_of_none e cn
  have nt : ∀ b, H b = none → b ≠ tb := fun b n z => by rw [z, e] at n; cases n
  have un : Un (frs X.stack) [] H (upd (upd H tb (.tbl #[rawInt ln, rawInt co, .ref c])) c (recAt c qual)) s.heap h' := by
    refine ⟨fun b o q n _ _ => hx b o (nt b n) q, fun b o q n _ _ => ⟨o.slots, hx b o (nt b n) q⟩, fun b o q n _ => ?_, fun b o q _ => ?_, fun b xs q => ?_, fun b o u q => ?_, fun b ps q => ?_⟩
    · rw [upd_ne (Nat.ne_of_lt (Nat.lt_of_lt_of_le (Heap.lt_size q) hc)), upd_ne (nt b n)]; exact n
    · by_cases hb : b = tb
      · exact ⟨_, hb ▸ ht⟩
      · exact ⟨o, hx b o hb q⟩
    · rw [upd_ne (ne_of_none q cn), upd_ne (ne_of q e (by intro z; cases z))]; exact q
    · rw [upd_ne (ne_of_none q cn), upd_ne (ne_of q e (by intro z; cases z))]; exact q
    · by_cases hb : b = tb
      · subst hb
        rw [e] at q; cases q
        exact ⟨#[rawInt ln, rawInt co, .ref c], by rw [upd_ne ct, upd_same]; simp⟩
      · exact ⟨#[], by rw [upd_ne (ne_of_none q cn), upd_ne hb, q]; simp⟩
  have ok : HOk X.prog X.w (upd (upd H tb (.tbl #[rawInt ln, rawInt co, .ref c])) c (recAt c qual)) h' := fun b o q => by
    by_cases hb : b = c
    · subst hb
      rw [upd_same] at q; cases q
      exact rec_ok hr
    · rw [upd_ne hb] at q
      by_cases hb2 : b = tb
      · subst hb2
        rw [upd_same] at q; cases q
        show h'.get? b = some _
        simpa using ht
      · rw [upd_ne hb2] at q
        refine (I.hok b o q).stay (fun d v hd r => hx d v ?_ r) (fun d r => ?_) fun d ys r => ?_
        · rcases hd with z | z
          · rw [z]; exact hb2
          · exact ne_of z e (by intro z; cases z)
        · rw [upd_ne (ne_of_none r cn), upd_ne (ne_of r e (by intro z; cases z))]; exact r
        · rw [upd_ne (ne_of_none r cn), upd_ne (ne_of r e (by intro z; cases z))]; exact r
  exact I.call (g' := s.gens) (d' := s.drawn) (t' := tk) un ok I.bare fun b hb => nomatch hb
end
end LX

set_option Elab.async false
set_option linter.all false
set_option maxRecDepth 100000
namespace LX
open PySem PySem.Spec PyProof.Rows L2 PySem.W
section
variable {X : Cx} {pins : List (Addr × Obj)} {σ : L2.St} {qual name : Str} {scope : Scope} {params : Arguments} {body : Expr} {cl : List (Str × Addr)} {f l S it c : Addr} {pm ctv : Value} {x : Str} {fv : List Str} {ixs : List Nat} {te : TE} {k : Nat} {xs : List V} {Q : VK} {fo : Obj} {R : Result → Shared → Prop} {Pv : Nat → V → Int → Hp → Prop}
theorem rec_of {H : Hp} {s : Shared} (I : Inv X pins σ H s) (e : H c = some (recAt c qual)) : s.heap.CodeRec (.ref c) qual := (show _ ∧ _ from I.hok c _ e).1
theorem min_loop (hc : X.calm = true) (hr : Room (k + 2) X.A) (ok : CompOk scope x fv X.env.scope) (hix : ixs.map (fun k => X.N[k]?) = fv.map some)
    (hcl1 : ∀ y c, cl.lookup y = some c → X.env.cells.lookup y = some c) (hcl2 : ∀ y, (y, NameKind.free) ∈ scope.names → cl.lookup y = X.env.cells.lookup y)
    (hd : fo.data = .func (kla_fn name qual params body scope cl pm (.ref c) ctv)) (hb : ∀ u, bindArgs (kla_fn name qual params body scope cl pm (.ref c) ctv) ⟨[u], []⟩ = pure [(x, u)]) (hco : scope.isCoroutine = false) (hgen : scope.isGenerator = false)
    (he : ∀ s H, Room k (X.A.in1.deeper (envX qual scope s.heap.objs.size f (.ref c) cl)) → PE (lamCx X qual scope cl f (.ref c) (x :: fv) X.A.in1 s H) body te)
    (hfS : f ≠ S) (hfi : f ≠ it) (hSi : S ≠ it) (hli : l ≠ it)
    (p1 : ∀ i b kb H', Pv i b kb H' → H' l = some (.lst xs) ∧ H' c = some (recAt c qual))
    (p3 : ∀ i x b kb H', 1 ≤ i → xs[i]? = some x → Pv i b kb H' → te (some x :: fvals ixs σ) H' fun kv H2 => ∃ k, kv = .int k ∧ (k < kb → Pv (i + 1) x k H2) ∧ (¬ k < kb → Pv (i + 1) b kb H2))
    (p4 : ∀ b kb H', Pv xs.length b kb H' → Q b H')
    (hR : ∀ u s' b H', Inv X pins σ H' s' → RelV b u → Q b H' → R (.ok (.ret u)) s') :
    ∀ (r i : Nat) (s : Shared) (H : Hp) (b : V) (ub : Value) (kb : Int) (t0 : Tok) (cn : Nat), xs.length - i = r → 1 ≤ i → i ≤ xs.length → Inv X pins σ H s → (∀ a ∈ [f, S, it], FpOk X pins H a) → s.heap.get? f = some fo →
      s.heap.get? S = some (seqObj "list" #[ub, .int kb t0] cn) → s.heap.IsListIter it l i → RelV b ub → Pv i b kb H →
      codeAny (model X.prog X.w) X.A (.builtin "min.loop" ⟨[.ref it, .ref f, .ref S], []⟩) R s := by
  have hname : (toString "min" ++ toString ".loop" : String) = "min.loop" := by decide
  have frA : X.A.in1.frames = X.A.frames := rfl
  intro r
  induction r with
  | zero =>
    intro i s H b ub kb t0 cn hri h1 hi I hf gf gS hit rb pv
    have hin : i = xs.length := by omega
    obtain ⟨el, _⟩ := p1 _ _ _ _ pv
    obtain ⟨its, rv, pl, hz⟩ := I.list (.inl (.inl el))
    have hlen := rv.length
    have W := Walks.list (prog := X.prog) (w := X.w) (A := X.A.in1) (I.ok.hd hc) it l hli its.toArray
    have hsz : its.toArray.size = xs.length := by simp; omega
    obtain ⟨i0, i1, i2, i3, i4, i5⟩ := hf it (by simp)
    obtain ⟨s0, s1, s2, s3, s4, s5⟩ := hf S (by simp)
    refine codeAny_builtin PySem.F.entry_min_loop ?_
    rw [Around.under_plainId PySem.F.plain_min_loop _]
    show wpAny _ X.A.in1 (seqItems? (.ref S) >>= _) _ _ _
    refine wpAny_bind (wpAny_seqItems gS rfl ?_)
    show wpAny _ X.A.in1 (tryCatch (pyNext (.ref it)) _ >>= _) _ _ _
    refine wpAny_bind (wpAny_tryCatch (W.done _ _ _ ⟨by rw [hsz, ← hin]; exact hit, pl.isList⟩ fun h' tk' hk' => ?_))
    have I1 : Inv X pins σ H { s with heap := h', toks := tk' } := I.turned (it := it) (fun b o hb e => hk' b o (by simpa using hb) e) i0 i1 i3 i4 i5
    have hS' := hk' S _ (by simpa using hSi) gS
    have sb := Heap.SameBut.update h' S (Obj.mapSeq fun _ => (#[] : Array Value))
    show wpAny _ X.A.in1 (updateSeq S (fun _ => #[]) >>= _) _ _ _
    refine wpAny_bind ?_
    refine wpAny_updateSeq hS' rfl (wpAny_bind (wpAny_letGo (wpAny_pure ?_)))
    refine hR ub _ b H ?_ rb (p4 _ _ _ (hin ▸ pv))
    exact I1.turned (t' := tk') (it := S) (fun b o hb e => (sb.2 b hb).trans e) s0 s1 s3 s4 s5
  | succ r ih =>
    intro i s H b ub kb t0 cn hri h1 hi I hf gf gS hit rb pv
    have hlt : i < xs.length := by omega
    obtain ⟨el, ec⟩ := p1 _ _ _ _ pv
    obtain ⟨its, rv, pl, hz⟩ := I.list (.inl (.inl el))
    have hlen := rv.length
    have W := Walks.list (prog := X.prog) (w := X.w) (A := X.A.in1) (I.ok.hd hc) it l hli its.toArray
    have hsz : its.toArray.size = xs.length := by simp; omega
    obtain ⟨i0, i1, i2, i3, i4, i5⟩ := hf it (by simp)
    refine codeAny_builtin PySem.F.entry_min_loop ?_
    rw [Around.under_plainId PySem.F.plain_min_loop _]
    show wpAny _ X.A.in1 (seqItems? (.ref S) >>= _) _ _ _
    refine wpAny_bind (wpAny_seqItems gS rfl ?_)
    show wpAny _ X.A.in1 (tryCatch (pyNext (.ref it)) _ >>= _) _ _ _
    refine wpAny_bind (wpAny_tryCatch (W.item i _ _ _ (by rw [hsz]; exact hlt) ⟨hit, pl.isList⟩ fun v h' tk' hP hst' hk' => ?_))
    have hv : its[i]? = some v := by simpa using hP
    have hxi : xs[i]? = some xs[i] := List.getElem?_eq_getElem hlt
    obtain ⟨v2, hv2, rvi⟩ := rv.get hxi
    rw [hv] at hv2
    cases hv2
    have I1 : Inv X pins σ H { s with heap := h', toks := tk' } := I.turned (it := it) (fun b o hb e => hk' b o (by simpa using hb) e) i0 i1 i3 i4 i5
    obtain ⟨oI', hoI', hoc, hod⟩ := id hst'.1
    have gS1 := hk' S _ (by simpa using hSi) gS
    have gf1 := hk' f _ (by simpa using hfi) gf
    have hob : ∀ a ∈ [f, S, it], ∃ o, h'.get? a = some o ∧ ∀ v, o.data ≠ .cell v := fun a ha => by
      simp only [List.mem_cons, List.not_mem_nil, or_false] at ha
      rcases ha with rfl | rfl | rfl
      · exact ⟨fo, gf1, fun v z => by rw [hd] at z; cases z⟩
      · exact ⟨_, gS1, fun v z => by cases z⟩
      · exact ⟨_, hoI', fun v z => by rw [hod] at z; cases z⟩
    show wpAny _ X.A.in1 (tryCatch (holding [v] (call (.ref f) [v])) _ >>= _) _ _ _
    refine wpAny_bind (wpAny_tryCatch (wpAny_holding (wpAny_mono (lam_turn (E := fun _ _ => False) (fp := [f, S, it]) I1 hf hob ok hix hcl1 hcl2 (frA.trans I.ok.frames) hr.in1 gf1 hd (rec_of I1 ec) (hb v) hco hgen he rvi (p3 i _ b kb H h1 hxi pv)) (fun x' s'' hq => ?_) fun _ _ hF => hF.elim)))
    obtain ⟨kv, H2, I2, rk, ⟨kk, rfl, c1, c2⟩, f2, pin2⟩ := hq
    obtain ⟨t2, rfl⟩ := rk
    have gS2 := pin2 S (by simp) _ gS1
    have gf2 := pin2 f (by simp) _ gf1
    have gi2 := pin2 it (by simp) _ hoI'
    obtain ⟨s0, s1, s2, s3, s4, s5⟩ := f2 S (by simp)
    show wpAny _ X.A.in1 (tryCatch (holding [v, .int kk t2] (richCompare .Lt (.int kk t2) (.int kb t0) >>= _)) _ >>= _) _ _ _
    refine wpAny_bind (wpAny_tryCatch (wpAny_holding (wpAny_bind (CmpOf.ints_lt (prog := X.prog) (w := X.w) (A := X.A.in1) (P := fun i v => ∃ t, v = .int ((fun n => match n with | 0 => kk | _ => kb : Nat → Int) i) t) (fun n => match n with | 0 => kk | _ => kb) (fun i v h => h) 0 1 _ _ _ _ _ ⟨t2, rfl⟩ ⟨t0, rfl⟩ ?_))))
    refine wpAny_bind (wpAny_holding (wpAny_truthy_bool ?_))
    refine wpAny_bind (wpAny_letGo (wpAny_pure ?_))
    by_cases hb' : kk < kb
    · have sb := Heap.SameBut.update s''.heap S (Obj.mapSeq fun _ => #[v, .int kk t2])
      obtain ⟨cn2, hc2⟩ : ∃ c2, (s''.heap.update S (Obj.mapSeq fun _ => #[v, .int kk t2])).get? S = some (seqObj "list" #[v, .int kk t2] c2) := ⟨_, get?_update_seq gS2 fun _ => #[v, .int kk t2]⟩
      simp only [hb', decide_true, if_true]
      refine wpAny_bind ?_
      refine wpAny_updateSeq gS2 rfl (wpAny_bind (wpAny_letGo ?_))
      rw [hname]
      refine wpAny_pure ⟨plainId_quiet PySem.F.plain_min_loop _, ih (i + 1) _ H2 _ v kk t2 cn2 (by omega) (by omega) hlt (I2.turned (t' := s''.toks) (it := S) (fun b o hb e => (sb.2 b hb).trans e) s0 s1 s3 s4 s5) f2 ((sb.2 f hfS).trans gf2) hc2 ⟨oI', (sb.2 it hSi.symm).trans gi2, hoc, hod⟩ rvi (c1 hb')⟩
    · simp only [hb', decide_false, Bool.false_eq_true, if_false]
      refine wpAny_bind (wpAny_letGo ?_)
      rw [hname]
      exact wpAny_pure ⟨plainId_quiet PySem.F.plain_min_loop _, ih (i + 1) _ H2 b ub kb t0 cn (by omega) (by omega) hlt I2 f2 gf2 gS2 ⟨oI', gi2, hoc, hod⟩ rb (c2 hb')⟩
theorem call_minLam {H : Hp} {s : Shared} {E : Value → Shared → Prop} (hc : X.calm = true) (hr : Room (k + 2) X.A) (ok : CompOk scope x fv X.env.scope) (hix : ixs.map (fun k => X.N[k]?) = fv.map some)
    (hcl1 : ∀ y c, cl.lookup y = some c → X.env.cells.lookup y = some c) (hcl2 : ∀ y, (y, NameKind.free) ∈ scope.names → cl.lookup y = X.env.cells.lookup y)
    (hd : fo.data = .func (kla_fn name qual params body scope cl pm (.ref c) ctv)) (hb : ∀ u, bindArgs (kla_fn name qual params body scope cl pm (.ref c) ctv) ⟨[u], []⟩ = pure [(x, u)]) (hco : scope.isCoroutine = false) (hgen : scope.isGenerator = false)
    (he : ∀ s H, Room k (X.A.in1.deeper (envX qual scope s.heap.objs.size f (.ref c) cl)) → PE (lamCx X qual scope cl f (.ref c) (x :: fv) X.A.in1 s H) body te)
    (I : Inv X pins σ H s) (hf : FpOk X pins H f) (gf : s.heap.get? f = some fo) (el : H l = some (.lst xs)) (ec : H c = some (recAt c qual)) (hne : 0 < xs.length) (hw : MinW l c qual te (fvals ixs σ) xs Q H) :
    wpAny (model X.prog X.w) X.A (call (.builtin "min") [.ref l] [(Str.ofString "key", .ref f)]) (EP X pins σ Q) E s := by
  have hname : (toString "min" ++ toString ".loop" : String) = "min.loop" := by decide
  have frA : X.A.in1.frames = X.A.frames := rfl
  obtain ⟨Pv, p1, p2, p3, p4⟩ := hw
  obtain ⟨its, rv, pl, hz⟩ := I.list (.inl (.inl el))
  have hlen := rv.length
  have hll : l < s.heap.objs.size := let ⟨_, ho, _⟩ := pl.isList; Heap.lt_size ho
  have hfl : f < s.heap.objs.size := Heap.lt_size gf
  refine kmk_tree PySem.F.kind_min PySem.F.plain_min PySem.F.entry_min (kmk_min_key _ _) ?_
  show wpAny _ X.A.in1 (Builtin.Builtins.bindParams "min" ["key", "default"] 0 ⟨[], [(Str.ofString "key", .ref f)]⟩ >>= _) _ _ s
  refine wpAny_bind (wpAny_of_eq (show Builtin.Builtins.bindParams "min" ["key", "default"] 0 ⟨[], [(Str.ofString "key", .ref f)]⟩ = pure [some (.ref f), none] from rfl) ?_)
  refine wpAny_bind (wpAny_pure ?_)
  refine wpAny_bind (wpAny_pyIter_list pl.isList ?_)
  refine wpAny_bind (wpAny_newList ?_ (Nat.zero_le _))
  rw [hname]
  have hS : (s.heap.push { cls := .type "list_iterator", data := .fields #[.ref l, .int 0 0] }).objs.size = s.heap.objs.size + 1 := size_push' ..
  have hlI : l ≠ s.heap.objs.size := Nat.ne_of_lt hll
  refine wpAny_pure ⟨plainId_quiet PySem.F.plain_min_loop _, ?_⟩
  have kp : ∀ b o, s.heap.get? b = some o → ((s.heap.push { cls := .type "list_iterator", data := .fields #[.ref l, .int 0 0] }).push (seqObj "list" #[] 0)).get? b = some o := fun b o e => Heap.get?_push_of_some _ (Heap.get?_push_of_some _ e)
  have gI : ((s.heap.push { cls := .type "list_iterator", data := .fields #[.ref l, .int 0 0] }).push (seqObj "list" #[] 0)).get? s.heap.objs.size = some { cls := .type "list_iterator", data := .fields #[.ref l, .int 0 0] } :=
    Heap.get?_push_of_some _ (Heap.get?_push_size _ rfl)
  have gS : ((s.heap.push { cls := .type "list_iterator", data := .fields #[.ref l, .int 0 0] }).push (seqObj "list" #[] 0)).get? (s.heap.push { cls := .type "list_iterator", data := .fields #[.ref l, .int 0 0] }).objs.size = some (seqObj "list" #[] 0) := Heap.get?_push_size _ rfl
  have I0 : Inv X pins σ H { s with heap := (s.heap.push { cls := .type "list_iterator", data := .fields #[.ref l, .int 0 0] }).push (seqObj "list" #[] 0) } := I.kept (t' := s.toks) kp
  have F0 : ∀ a ∈ [f, (s.heap.push { cls := .type "list_iterator", data := .fields #[.ref l, .int 0 0] }).objs.size, s.heap.objs.size], FpOk X pins H a := fun a ha => by
    simp only [List.mem_cons, List.not_mem_nil, or_false] at ha
    rcases ha with rfl | rfl | rfl
    · exact hf
    · exact I.fpOk (by rw [hS]; exact Nat.le_succ _) (I.hok.fresh (by rw [hS]; exact Nat.le_succ _))
    · exact I.fpOk (Nat.le_refl _) (I.hok.fresh (Nat.le_refl _))
  have gf0 := kp f fo gf
  have hl0 : ((s.heap.push { cls := .type "list_iterator", data := .fields #[.ref l, .int 0 0] }).push (seqObj "list" #[] 0)).IsList l its.toArray := pl.isList.at fun o e => kp _ o e
  have hSI : (s.heap.push { cls := .type "list_iterator", data := .fields #[.ref l, .int 0 0] }).objs.size ≠ s.heap.objs.size := by rw [hS]; exact Nat.ne_of_gt (Nat.lt_succ_self _)
  have hfS : f ≠ (s.heap.push { cls := .type "list_iterator", data := .fields #[.ref l, .int 0 0] }).objs.size := by rw [hS]; exact Nat.ne_of_lt (Nat.lt_succ_of_lt hfl)
  have hfi : f ≠ s.heap.objs.size := Nat.ne_of_lt hfl
  generalize (s.heap.push { cls := .type "list_iterator", data := .fields #[.ref l, .int 0 0] }).objs.size = S at *
  generalize s.heap.objs.size = it at *
  generalize hG : ((s.heap.push { cls := .type "list_iterator", data := .fields #[.ref l, .int 0 0] }).push (seqObj "list" #[] 0)) = G at *
  have W := Walks.list (prog := X.prog) (w := X.w) (A := X.A.in1) (I.ok.hd hc) it l hlI its.toArray
  have hsz : its.toArray.size = xs.length := by simp; omega
  obtain ⟨i0, i1, i2, i3, i4, i5⟩ := F0 it (by simp)
  refine codeAny_builtin PySem.F.entry_min_loop ?_
  rw [Around.under_plainId PySem.F.plain_min_loop _]
  show wpAny _ X.A.in1 (seqItems? (.ref _) >>= _) _ _ _
  refine wpAny_bind (wpAny_seqItems gS rfl ?_)
  show wpAny _ X.A.in1 (tryCatch (pyNext (.ref it)) _ >>= _) _ _ _
  refine wpAny_bind (wpAny_tryCatch (W.item 0 _ _ _ (by rw [hsz]; exact hne) ⟨⟨_, gI, rfl, rfl⟩, hl0⟩ fun v h' tk' hP hst' hk' => ?_))
  have hv : its[0]? = some v := by simpa using hP
  have hx0 : xs[0]? = some xs[0] := List.getElem?_eq_getElem hne
  obtain ⟨v2, hv2, rvi⟩ := rv.get hx0
  rw [hv] at hv2
  cases hv2
  obtain ⟨oI', hoI', hoc, hod⟩ := id hst'.1
  have I1 : Inv X pins σ H { s with heap := h', toks := tk' } := Inv.turned (s := { s with heap := G }) (t' := tk') (it := it) I0 (fun b o hb e => hk' b o (by simpa using hb) e) i0 i1 i3 i4 i5
  have gS1 := hk' S _ (by simpa using hSI) gS
  have gf1 := hk' f _ (by simpa using hfi) gf0
  have hob : ∀ a ∈ [f, S, it], ∃ o, h'.get? a = some o ∧ ∀ v, o.data ≠ .cell v := fun a ha => by
    simp only [List.mem_cons, List.not_mem_nil, or_false] at ha
    rcases ha with rfl | rfl | rfl
    · exact ⟨fo, gf1, fun v z => by rw [hd] at z; cases z⟩
    · exact ⟨_, gS1, fun v z => by cases z⟩
    · exact ⟨_, hoI', fun v z => by rw [hod] at z; cases z⟩
  show wpAny _ X.A.in1 (tryCatch (holding [v] (call (.ref f) [v])) _ >>= _) _ _ _
  refine wpAny_bind (wpAny_tryCatch (wpAny_holding (wpAny_mono (lam_turn (E := fun _ _ => False) (fp := [f, S, it]) I1 F0 hob ok hix hcl1 hcl2 (frA.trans I.ok.frames) hr.in1 gf1 hd (rec_of I1 ec) (hb v) hco hgen he rvi (p2 _ hx0)) (fun x' s'' hq => ?_) fun _ _ hF => hF.elim)))
  obtain ⟨kv, H2, I2, rk, ⟨kk, rfl, c1⟩, f2, pin2⟩ := hq
  obtain ⟨t2, rfl⟩ := rk
  have gS2 := pin2 S (by simp) _ gS1
  have gf2 := pin2 f (by simp) _ gf1
  have gi2 := pin2 it (by simp) _ hoI'
  obtain ⟨s0, s1, s2, s3, s4, s5⟩ := f2 S (by simp)
  have sb := Heap.SameBut.update s''.heap S (Obj.mapSeq fun _ => #[v, .int kk t2])
  obtain ⟨cn2, hc2⟩ : ∃ c2, (s''.heap.update S (Obj.mapSeq fun _ => #[v, .int kk t2])).get? S = some (seqObj "list" #[v, .int kk t2] c2) := ⟨_, get?_update_seq gS2 fun _ => #[v, .int kk t2]⟩
  show wpAny _ X.A.in1 (updateSeq S (fun _ => #[v, .int kk t2]) >>= _) _ _ _
  refine wpAny_bind ?_
  refine wpAny_updateSeq gS2 rfl ?_
  rw [hname]
  refine wpAny_pure ⟨plainId_quiet PySem.F.plain_min_loop _, min_loop (pm := pm) (ctv := ctv) (params := params) (name := name) hc hr ok hix hcl1 hcl2 hd hb hco hgen he hfS hfi hSI hlI p1 p3 p4 (fun u s' b H' J rb q => ⟨b, H', J, rb, q⟩) (xs.length - 1) 1 _ H2 _ v kk t2 cn2 rfl (Nat.le_refl _) hne (I2.turned (t' := s''.toks) (it := S) (fun b o hb e => (sb.2 b hb).trans e) s0 s1 s3 s4 s5) f2 ((sb.2 f hfS).trans gf2) hc2 ⟨oI', (sb.2 it hSI.symm).trans gi2, hoc, hod⟩ rvi c1⟩
end
structure LamK (K : PySem.W.Frag) (mg : Str → Option Value) (cd : Value) (tb : Addr) : Prop where
  ex : ∃ c, cd = .ref c ∧ ∀ h : Heap, K.In h → CodeHd h c tb
  blt : ∀ h : Heap, K.In h → h.BuiltinsAt mg tb
  gl : mainGlobals ≠ tb
section
variable {X : Cx}
theorem pe_minLam {tb : Addr} {ln co : Nat} {params : Arguments} {scope : Scope} {body e : Expr} {lp kp p pos : Pos} {x : Str} {fv : List Str} {ixs : List Nat} {ta : TA} {te : TE} {k : Nat} (hc : X.calm = true) (hg : Gl X "min") (hm : X.mg "min" = none) (ha : PA X [e] ta) (hL : LamK X.K X.mg X.env.code tb) (hr : Room (k + 2) X.A)
    (hln : lp.line = ln) (hcol : lp.col = co) (hck : compOk scope x fv X.env.scope = true) (hix : ixs.map (fun k => X.N[k]?) = fv.map some)
    (hb : ∀ qual cl pm cd ctv u, bindArgs (kla_fn "<lambda>" qual params body scope cl pm cd ctv) ⟨[u], []⟩ = pure [(x, u)])
    (hco : scope.isCoroutine = false) (hgen : scope.isGenerator = false) (hdef : defaultsOf params X.env = ([], []))
    (he : ∀ cl f cd s H, Room k (X.A.in1.deeper (envX (X.env.qual ++ "<lambda>") scope s.heap.objs.size f cd cl)) → PE (lamCx X (X.env.qual ++ "<lambda>") scope cl f cd (x :: fv) X.A.in1 s H) body te)
    (hst : backTo pos (starEach [e] X.env) = (false, eval e X.env) :: backTo pos (starEach [] X.env) := by rfl) (hpl : (backTo pos (starEach [e] X.env)).any (·.1) = false := by rfl) :
    PE X (.Call (.Name "min" p) [e] [⟨some "key", .Lambda params body scope lp, kp⟩] pos) (tMinLam tb ln co (X.env.qual ++ "<lambda>") ta ixs te) := by
  subst hln hcol
  intro pins s σ H Q I h
  have ok := compOk_of hck
  obtain ⟨cl, hclos, hcl1, hcl2⟩ := closure_of (scope := scope) (env := X.env) fun y hy e => I.ok.has y.1 (ok.free y hy e)
  obtain ⟨c0, ecode, hC⟩ := hL.ex
  refine wpAny_Call_Name_kw (ld_blt I hg hm PyProof.Rows.boot_min ?_ (by decide) (by decide))
  refine PyProof.Rows.callWith_kw (thn (ha pos pins s σ H _ I h) fun us s1 ⟨vs, H1, I1, r1, q1⟩ => ?_) hst hpl
  obtain ⟨l, xs, rfl, el, hne, hz, tab, q⟩ := q1
  obtain ⟨u, rfl, rx⟩ := vals1 r1
  cases rx
  show wpAny _ _ (evalAll ((do let v ← eval (.Lambda params body scope lp) X.env; standAt pos; pure v) :: [])) _ _ s1
  refine wpAny_evalAll_cons (wpAny_bind (kla_eval hdef ?_))
  have KX := I1.kIn
  have gl1 : s1.heap.Ns mainGlobals X.mg := by
    obtain ⟨o, es, ep, e, r⟩ := I1.mod.glob
    exact ⟨o, es, ep, I1.bk _ _ e, r⟩
  -- what is left: the function lies at f, its code at c
  have fin : ∀ (c f : Addr) (ctv : Value) (H2 : Hp) (s2 : Shared), Inv X pins σ H2 s2 → FpOk X pins H2 f → s2.heap.get? f = some { cls := .type "function", data := .func (kla_fn "<lambda>" (X.env.qual ++ "<lambda>") params body scope cl ((X.mg "__name__").getD .none) (.ref c) ctv) } → But [tb] H1 H2 → TabIn tb lp.line lp.col (X.env.qual ++ "<lambda>") c H2 → H2 l = some (.lst xs) →
      wpAny (model X.prog X.w) X.A (do standAt pos; pure (Value.ref f)) (fun v s3 => wpAny (model X.prog X.w) X.A (evalAll []) (fun vs s4 => wpAny (model X.prog X.w) X.A (call (.builtin "min") [.ref l] (((backToKw pos (keywordEach [⟨some "key", .Lambda params body scope lp, kp⟩] X.env)).filterMap (·.1)).zip (v :: vs))) (EP X pins σ Q) X.xe s4) X.xe s3) X.xe s2 := by
    intro c f ctv H2 s2 I2 hf gf b2 t2 el2
    refine wpAny_bind (wpAny_standAt (wpAny_pure ?_))
    refine wpAny_evalAll_nil ?_
    show wpAny _ _ (call (.builtin "min") [.ref l] [(Str.ofString "key", .ref f)]) _ _ _
    exact call_minLam hc hr ok hix hcl1 hcl2 rfl (fun u => hb _ _ _ _ _ u) hco hgen (fun s H => he cl f (.ref c) s H) I2 hf gf el2 t2.2 hne (q c H2 b2 t2 el2)
  rcases tab with e0 | ⟨c, e0, e1⟩
  · have hP : s1.heap.get? tb = some (tabObj #[]) := I1.hok tb _ e0
    refine kla_makeFunction hclos I.ok.glob gl1 ecode (hC _ KX) hP trivial rfl hL.gl (hL.blt _ KX) fun c ctv h' tk hx hge hlt hrec htb => ?_
    have I2 := tab_grow (tk := tk) I1 e0 hx hge hrec htb
    have ct : tb ≠ c := ne_of_none e0 (I1.hok.fresh hge)
    have lt : l ≠ tb := ne_of el e0 (by intro z; cases z)
    have lc : l ≠ c := ne_of_none el (I1.hok.fresh hge)
    have I3 := I2.kept (h' := h'.push (kla_obj "<lambda>" (X.env.qual ++ "<lambda>") params body scope cl ((X.mg "__name__").getD .none) c ctv)) (t' := tk) fun b o e => Heap.get?_push_of_some _ e
    have hfr : upd (upd H1 tb (.tbl #[rawInt lp.line, rawInt lp.col, .ref c])) c (recAt c (X.env.qual ++ "<lambda>")) h'.objs.size = none := I2.hok.fresh (Nat.le_refl _)
    refine fin c h'.objs.size ctv _ _ I3 (I2.fpOk (Nat.le_refl _) hfr) (Heap.get?_push_size _ rfl) (fun b o e hb => ?_) ⟨by rw [upd_ne ct, upd_same], upd_same⟩ (by rw [upd_ne lc, upd_ne lt]; exact el)
    rw [upd_ne (ne_of_none e (I1.hok.fresh hge)), upd_ne (by simpa using hb)]; exact e
  · have hP : s1.heap.get? tb = some (tabObj #[rawInt lp.line, rawInt lp.col, .ref c]) := I1.hok tb _ e0
    refine kla_makeFunctionHit (cv := .ref c) hclos I.ok.glob gl1 ecode (hC _ KX) hP trivial (by simp [codeAmong, rawInt]) (hL.blt _ KX) fun ctv h' tk hk hsz => ?_
    have I3 := I1.kept (h' := h'.push { cls := .type "function", data := .func (kla_fn "<lambda>" (X.env.qual ++ "<lambda>") params body scope cl ((X.mg "__name__").getD .none) (.ref c) ctv) }) (t' := tk) fun b o e => Heap.get?_push_of_some _ (hk b o e)
    exact fin c h'.objs.size ctv _ _ I3 (I1.fpOk hsz (I1.hok.fresh hsz)) (Heap.get?_push_size _ rfl) (But.refl _ _) ⟨e0, e1⟩ el
end
end LX

set_option Elab.async false
set_option linter.all false
set_option maxRecDepth 100000
namespace LX
open PySem PySem.Spec PyProof.Rows L2 PySem.W
section
variable {P : Program} {w : World} {K : PySem.W.Frag} {mg : Str → Option Value} {base : Heap}
theorem okXc {x qual : Str} {st : Stmt} {f : Addr} {fd : FuncData} {N ps : List Str} {k : Nat} {sp : Sp} (F : Fun K x qual st f fd) (S : FnScope N ps (defScope st)) (len : ∀ vs H Q E, sp vs H Q E → vs.length = ps.length)
    (hbody : ∀ (A : Around) (outer : List Env) (s : Shared) (H : Hp) (vs : List V) (Q : VK) (E : XK), Room k (A.deeper (envOfC qual (defScope st) s.heap.objs.size f fd.code)) → sp vs H Q E →
      ∃ t, PSs (bodyCx P w K mg base N qual (defScope st) f fd.code A outer s H E) (defBody st) t ∧ t { nx := fun _ H' => Q .non H', rt := Q } (start N vs) H) : FnOk P w K mg base (CXe P w) (k + 1) f fd ps sp := by
  obtain ⟨oc, od, kV, doc, pm, an, cdv, ct, osl, rfl, lk, hcd⟩ := F.ex
  refine fn_of lk hcd S len fun A outer s H vs Q E hr hsp => ?_
  obtain ⟨t, h, q⟩ := hbody A outer s H vs Q E hr hsp
  exact ⟨t, pss_wish h leave_cx, q⟩
end
theorem law_callT {P : Program} {w : World} {K : PySem.W.Frag} {mg mb : Str → Option Value} {CX : CXT} {k : Nat} {fa a tb : Addr} {fd : FuncData} {x : Str} {sp : Sp} {s₁ : Shared} {vs : List Value} {ns : List Int}
    (htb : s₁.heap.get? tb = some (tabObj #[])) (hct : isCodeTable s₁.heap tb) (hKt : K.lookup tb = none)
    (KX : K.In s₁.heap) (hns : s₁.heap.Ns mainGlobals mg) (hb : s₁.heap.Ns builtinsNs mb) (hbb : ∀ x : Str, x ≠ "__name__" → mb x = bootBuiltins x) (hlim : s₁.heap.NoLimit) (hg : s₁.gens = #[])
    (ha : s₁.heap.get? a = some { cls := .type "list", data := .seq vs.toArray }) (hi : IntsAre vs ns) (hl : ns.length ≤ sizeLine) (hr : Room k callerA)
    (F : ∀ base : Heap, K.In base → base.Ns mainGlobals mg → FnOk P w K mg base CX k fa fd [x] sp) (hbind : ∀ (s : Shared) (u : Value), BindsTo s fd ⟨[u], []⟩ [(x, u)])
    (hsp : ∀ H : Hp, H tb = some (.tbl #[]) → SqL K H a (ns.map V.int) → sp [.ref a] H (fun v _ => v = .bl true) fun _ _ _ => False)
    (hCX : ∀ H e s', CX [] H s₁ (fun _ _ _ => False) e s' → False) :
    codeAny (model P w) callerA (.call (.ref fa) ⟨[.ref a], []⟩) (fun r s' => r = .ok (.ret (.bool true)) ∧ OldK s₁.heap s'.heap ∧ s'.os = s₁.os ∧ AllBare s'.gens) s₁ := by
  have rv := vals_ints hi
  have lenV := hi.length
  have nat : a ≠ tb := fun z => by rw [z, htb] at ha; cases ha
  have core : ∀ H : Hp, H tb = some (.tbl #[]) → (∀ b, b ≠ tb → H b = none ∨ ∃ o xs, H b = some (.frz o (.lst xs))) → SqL K H a (ns.map V.int) → HOk P w H s₁.heap → (∀ b, H b ≠ none → b = a ∨ b = tb) → (H a ≠ none → K.lookup a = none) →
      codeAny (model P w) callerA (.call (.ref fa) ⟨[.ref a], []⟩) (fun r s' => r = .ok (.ret (.bool true)) ∧ OldK s₁.heap s'.heap ∧ s'.os = s₁.os ∧ AllBare s'.gens) s₁ := by
    intro H hT hO hS hok hA hK
    have base_of : ∀ {b : Addr} {o : Obj}, s₁.heap.get? b = some o → H b = none → (hidT s₁.heap H).get? b = some o := fun e n => hidT_get e n
    have noA : ∀ {b : Addr} {o : Obj} {es : Array DictEntry} {ep : Nat}, s₁.heap.get? b = some o → o.data = .dict es ep → H b = none := fun {b o es ep} e d => by
      cases q : H b with
      | none => rfl
      | some u =>
        rcases hA b (by rw [q]; simp) with e' | e'
        · subst e'
          rw [ha] at e; cases e
          have d' : Data.seq vs.toArray _ = Data.dict es ep := d
          cases d'
        · subst e'
          rw [htb] at e; cases e
          have d' : Data.fields #[] = Data.dict es ep := d
          cases d'
    have nsK : ∀ {b : Addr} {m : Str → Option Value}, s₁.heap.Ns b m → (hidT s₁.heap H).Ns b m := fun {b m} ⟨o, es, ep, e, d, r⟩ => ⟨o, es, ep, base_of e (noA e d), d, r⟩
    have hKb : K.In (hidT s₁.heap H) := fun b o e => base_of (KX b o e) (by
      cases q : H b with
      | none => rfl
      | some u =>
        rcases hA b (by rw [q]; simp) with e' | e'
        · subst e'
          rw [hK (by rw [q]; simp)] at e; cases e
        · subst e'
          rw [hKt] at e; cases e)
    have hM : Mod K mg (hidT s₁.heap H) := ⟨hKb, nsK hns, ⟨mb, nsK hb, hbb⟩, let ⟨mc, h1, h2⟩ := hlim; ⟨mc, nsK h1, h2⟩⟩
    have e0 : Env0 P w K mg (hidT s₁.heap H) callerA [] s₁ H := ⟨rfl, hM, fun b o e => of_hidT e, Nat.le_of_eq (hidT_size _ _), trivial, fun b hb => absurd (show b ∈ ([] : List Addr) from hb) (by simp), hok, .of_eq hg⟩
    refine codeAny_mono ((F _ hKb (nsK hns)).run callerA [] s₁ H ⟨[.ref a], []⟩ [.ref a] [.ref a] _ _ hr e0 (hbind s₁ (.ref a)) (.cons rfl .nil) (hsp H hT hS)) fun r s' h => ?_
    cases r with
    | error e => exact (hCX H e s' h).elim
    | ok fl =>
      cases fl with
      | next => exact False.elim h
      | brk => exact False.elim h
      | cont => exact False.elim h
      | ret u =>
        obtain ⟨v, H', os, bare, un, hok', r', q⟩ := h
        have q' : v = .bl true := q
        subst q'
        obtain rfl : u = Value.bool true := r'
        have keep : ∀ b o, b ≠ tb → s₁.heap.get? b = some o → s'.heap.get? b = some o := fun b o nb e => by
          cases q : H b with
          | none => exact un.keep b o e q (by intro z; exact absurd (show b ∈ ([] : List Addr) from z) (by simp)) (by simp)
          | some u =>
            rcases hO b nb with z | ⟨ob, xs, z⟩
            · rw [q] at z; cases z
            · have z2 := un.frzs b ob _ z
              obtain ⟨e1, _⟩ := hok b _ z
              obtain ⟨e2, _⟩ := hok' b _ z2
              rw [e] at e1; cases e1
              exact e2
        obtain ⟨more, et⟩ := un.tbls tb _ hT
        have et2 : s'.heap.get? tb = some { cls := .none, data := .fields (#[] ++ more) } := hok' tb _ et
        refine ⟨rfl, ⟨fun b o e => ?_, fun b o e => ?_⟩, os, bare⟩
        · by_cases hbt : b = tb
          · subst hbt
            rw [htb] at e; cases e
            exact .inr (.inl ⟨hct, rfl, #[], more, rfl, et2⟩)
          · exact .inl (keep b o hbt e)
        · by_cases hbt : b = tb
          · subst hbt; exact ⟨_, et2⟩
          · exact ⟨o, keep b o hbt e⟩
  cases hk : K.lookup a with
  | some o =>
    have e := KX a o hk
    rw [ha] at e
    cases e
    refine core (fun b => if b = tb then some (.tbl #[]) else none) (if_pos rfl) (fun b nb => .inl (if_neg nb)) (.inr ⟨_, vs.toArray, _, hk, rfl, rfl, rfl, by rw [List.size_toArray, lenV]; exact hl, by simpa using rv⟩) (fun b u z => ?_) (fun b z => ?_) fun z => absurd (if_neg nat) z
    · by_cases hb : b = tb
      · have z' := (if_pos hb).symm.trans z
        cases z'
        subst hb
        exact htb
      · have z' := (if_neg hb).symm.trans z
        cases z'
    · by_cases hb : b = tb
      · exact .inr hb
      · exact absurd (if_neg hb) z
  | none =>
    refine core (fun b => if b = a then some (.frz { cls := .type "list", data := .seq vs.toArray } (.lst (ns.map V.int))) else if b = tb then some (.tbl #[]) else none) ?_ (fun b nb => ?_) (.inl (.inr ⟨{ cls := .type "list", data := .seq vs.toArray }, if_pos rfl⟩)) (fun b u z => ?_) (fun b z => ?_) fun _ => hk
    · exact (if_neg (Ne.symm nat)).trans (if_pos rfl)
    · by_cases hb : b = a
      · exact .inr ⟨_, _, if_pos hb⟩
      · exact .inl ((if_neg hb).trans (if_neg nb))
    · by_cases hb : b = a
      · have z' := (if_pos hb).symm.trans z
        cases z'
        subst hb
        exact ⟨ha, by rw [List.length_map]; exact hl, vs, _, rv, ha⟩
      · have z' := (if_neg hb).symm.trans z
        by_cases hb2 : b = tb
        · have z'' := (if_pos hb2).symm.trans z'
          cases z''
          subst hb2
          exact htb
        · have z'' := (if_neg hb2).symm.trans z'
          cases z''
    · by_cases hb : b = a
      · exact .inl hb
      · by_cases hb2 : b = tb
        · exact .inr hb2
        · exact absurd ((if_neg hb).trans (if_neg hb2)) z
theorem walk_ofT {l : PySem.W.OpenLaw} {n k : Nat} {q : Program} {loose : List Str} {XP : (Str → Option Value) → Heap → Prop} {YP : World → Heap → Prop} {d : DefRec} {K : Params → PySem.W.Frag} {CX : World → CXT} {sp : World → Sp} {x : Str} {tb : Addr}
    (hn : l.most = some n) (hn2 : n ≤ sizeLine) (hdf : d.params.defaults = []) (hr : Room k callerA)
    (hY : ∀ (w : World) (h : Heap), YP w h → (K w.params).In h ∧ h.get? tb = some (tabObj #[]) ∧ isCodeTable h tb ∧ (K w.params).lookup tb = none)
    (F : ∀ (w : World) (mg : Str → Option Value) (fa : Addr) (h : Heap), (K w.params).In h → h.Ns mainGlobals mg → mg d.name = some (.ref fa) →
      ∃ fd : FuncData, (∀ (s : Shared) (u : Value), BindsTo s fd ⟨[u], []⟩ [(x, u)]) ∧
        ∀ base : Heap, (K w.params).In base → base.Ns mainGlobals mg → FnOk l.prog w (K w.params) mg base (CX w) k fa fd [x] (sp w))
    (hsp : ∀ (w : World) (H : Hp) (a : Addr) (ns : List Int), ns.length ≤ n → H tb = some (.tbl #[]) → SqL (K w.params) H a (ns.map V.int) → sp w [.ref a] H (fun v _ => v = .bl true) fun _ _ _ => False)
    (hCX : ∀ (w : World) (H : Hp) (s : Shared) (e : Value) (s' : Shared), CX w [] H s (fun _ _ _ => False) e s' → False) :
    PySem.W.WalkO q loose XP YP l.row.toRowW d [] (fun f vs => PySem.call f vs) := by
  refine Att.attach_call hn hdf fun w s₀ s₁ mg mb fa o pm cd doc a vs ns G Y ho hd hcd hmg hobj hints hlen hg => ?_
  obtain ⟨KX, htb, hct, hKt⟩ := hY w _ Y
  obtain ⟨fd, hb, hF⟩ := F w mg fa _ KX G.T.g hmg
  exact law_callT htb hct hKt KX G.T.g G.T.b G.T.builtins G.T.nolimit hg hobj hints (Nat.le_trans hlen hn2) hr hF hb (fun H hT hS => hsp w H a ns hlen hT hS) fun H e s' => hCX w H s₁ e s'
end LX

set_option Elab.async false
set_option linter.all false
set_option maxRecDepth 100000
namespace KW
open PySem L2 LX Lf
seal L2.PE L2.PT L2.PW L2.PS L2.PSs L2.PA L2.PI L2.PG L2.PC LX.PH LX.PIf L2.PPs L2.PO L2.OpR L2.UnR L2.CallR L2.IxR L2.MtR
local macro_rules | `(tactic| simp_arith [$xs,*]) => `(tactic| simp only [tRet, tRetN, tIfS, tAsg, gName, tDrop, tNext, vU, tC, tOp, tUn, rIU, rIC, rPowU, neg_i, rIsNU, rNotNU, tTestU, bU, tAnd, tOr, tNot, tAndU, tOrU, tNotU, L2.tIf, tFldU, fldU, sFldU, setU, sFldAugU, iaddU, tMethU, recU, tCallU, tMakeU, tCons, tNil, tCB, allU, isiU, minU, tDGetU, dgU, keyOf, sDPutU, dpU, sLPutU, lpU, tTup, tLst, tComp, tDNewK, fvals, L2.start, cx_body, cx_blk, cx_try, cx_mark, List.map_cons, List.map_nil, List.length_cons, List.length_nil, List.cons_append, List.nil_append, List.append_nil, List.getElem?_cons_zero, List.getElem?_cons_succ, List.replicate, List.set_cons_zero, List.set_cons_succ, Nat.sub_self, Nat.add_one_sub_one, Nat.sub_zero, true_and, and_true, scal_nn, scal_ni, scal_in, scal_nb, scal_bn, scal_ns, scal_sn, scal_ii, scal_bb, scal_ss, scal_is, scal_si, scal_bs, scal_sb, scal_rr, scal_nr, scal_rn, if_true, reduceIte, Bool.false_eq_true, Option.join_some, Option.join, upd_same, give_p, give_n, give_0, add_eq, addO, mul_eq, mulO, len_eq, lenO, list_eq, listO, int_eq, intO, oneR, ix_eq, ixO, eq_eq, ne_eq', gEq_t, gEq_f, gNe_t, gNe_f, Option.bind_some, id_eq, tLM, isLst, appU, pop0U, idxU, idxO, cntU, inU, inO, listDU, sortU, tDiU, diU, tDPopU, isDK, dpopU, tChU, isxU, tLRng1, tLRng2, tLRev, tJoin, isStrV, mulSU, ixSU, tGGet, tGIn, clrU, tLM0, tAug, ipI, rEqS, rNeS, gS_t, $xs,*])
def top (i : Nat) : Stmt := PySem.Challenge.pw_lockflight_k11_bad_flights.main.body.getD i (.Pass ⟨0, 0, 0, 0⟩)
abbrev s_init : Stmt := inClass (top 13) 0
abbrev s_levels : Stmt := inClass (top 13) 1
abbrev s_side : Stmt := inClass (top 13) 7
abbrev s_place : Stmt := inClass (top 13) 8
abbrev s_come : Stmt := inClass (top 13) 9
abbrev s_let : Stmt := inClass (top 13) 10
abbrev s_sail : Stmt := inClass (top 13) 11
abbrev s_summit : Stmt := inClass (top 13) 12
abbrev s_is_chamber : Stmt := inClass (top 13) 13
abbrev s_can_give : Stmt := inClass (top 13) 14
abbrev s_can_take : Stmt := inClass (top 13) 15
abbrev s_is_level : Stmt := inClass (top 13) 16
abbrev s_give : Stmt := inClass (top 13) 17
abbrev s_take : Stmt := inClass (top 13) 18
abbrev s_leave : Stmt := inClass (top 13) 19
abbrev s_enter : Stmt := inClass (top 13) 20
abbrev s_cost : Stmt := top 15
abbrev s_boat_cost : Stmt := top 16
abbrev s_levels_behind : Stmt := top 17
abbrev s_plan : Stmt := top 18
abbrev s_Rehearsal_init : Stmt := inClass (top 19) 0
abbrev s_Rehearsal_bring_up : Stmt := inClass (top 19) 1
abbrev s_Rehearsal_bring_down : Stmt := inClass (top 19) 2
abbrev s_Rehearsal_make_high : Stmt := inClass (top 19) 3
abbrev s_Rehearsal_make_low : Stmt := inClass (top 19) 4
abbrev s_Rehearsal_highest : Stmt := inClass (top 19) 5
abbrev s_Rehearsal_is_high : Stmt := inClass (top 19) 6
abbrev s_Rehearsal_let : Stmt := inClass (top 19) 7
abbrev s_Rehearsal_sail : Stmt := inClass (top 19) 8
abbrev s_best : Stmt := top 21
abbrev s_Stand_init : Stmt := inClass (top 22) 0
abbrev s_Stand_is_empty : Stmt := inClass (top 22) 1
abbrev s_Stand_may_go : Stmt := inClass (top 22) 2
abbrev s_Stand_behind : Stmt := inClass (top 22) 3
abbrev s_Stand_mark : Stmt := inClass (top 22) 4
abbrev s_Rests_init : Stmt := inClass (top 23) 0
abbrev s_Rests_rest_of : Stmt := inClass (top 23) 1
abbrev s_Rests_cost_by : Stmt := inClass (top 23) 2
abbrev s_Rests_next_sides : Stmt := inClass (top 23) 3
abbrev s_Rests_best_side : Stmt := inClass (top 23) 4
abbrev s_l_cell_at : Stmt := top 25
abbrev s_l_order : Stmt := top 26
abbrev s_l_refused : Stmt := top 27
abbrev s_law : Stmt := top 28
set_option genInjectivity false in
structure Adr where
  c_Flight : Addr
  c_Rehearsal : Addr
  c_Stand : Addr
  c_Rests : Addr
  c_LockError : Addr
  c_BadFlight : Addr
  c_NoGate : Addr
  c_NoFall : Addr
  c_NoBoat : Addr
  c_NotFirst : Addr
  c_Shut : Addr
  c_Occupied : Addr
  c_BadText : Addr
  k_MOST_CHAMBERS : Tok
  f_init : Addr
  d_init : FuncData
  f_levels : Addr
  d_levels : FuncData
  f_side : Addr
  d_side : FuncData
  f_place : Addr
  d_place : FuncData
  f_come : Addr
  d_come : FuncData
  f_let : Addr
  d_let : FuncData
  f_sail : Addr
  d_sail : FuncData
  f_summit : Addr
  d_summit : FuncData
  f_is_chamber : Addr
  d_is_chamber : FuncData
  f_can_give : Addr
  d_can_give : FuncData
  f_can_take : Addr
  d_can_take : FuncData
  f_is_level : Addr
  d_is_level : FuncData
  f_give : Addr
  d_give : FuncData
  f_take : Addr
  d_take : FuncData
  f_leave : Addr
  d_leave : FuncData
  f_enter : Addr
  d_enter : FuncData
  f_cost : Addr
  d_cost : FuncData
  f_boat_cost : Addr
  d_boat_cost : FuncData
  f_levels_behind : Addr
  d_levels_behind : FuncData
  f_plan : Addr
  d_plan : FuncData
  f_Rehearsal_init : Addr
  d_Rehearsal_init : FuncData
  f_Rehearsal_bring_up : Addr
  d_Rehearsal_bring_up : FuncData
  f_Rehearsal_bring_down : Addr
  d_Rehearsal_bring_down : FuncData
  f_Rehearsal_make_high : Addr
  d_Rehearsal_make_high : FuncData
  f_Rehearsal_make_low : Addr
  d_Rehearsal_make_low : FuncData
  f_Rehearsal_highest : Addr
  d_Rehearsal_highest : FuncData
  f_Rehearsal_is_high : Addr
  d_Rehearsal_is_high : FuncData
  f_Rehearsal_let : Addr
  d_Rehearsal_let : FuncData
  f_Rehearsal_sail : Addr
  d_Rehearsal_sail : FuncData
  f_best : Addr
  d_best : FuncData
  f_Stand_init : Addr
  d_Stand_init : FuncData
  f_Stand_is_empty : Addr
  d_Stand_is_empty : FuncData
  f_Stand_may_go : Addr
  d_Stand_may_go : FuncData
  f_Stand_behind : Addr
  d_Stand_behind : FuncData
  f_Stand_mark : Addr
  d_Stand_mark : FuncData
  f_Rests_init : Addr
  d_Rests_init : FuncData
  f_Rests_rest_of : Addr
  d_Rests_rest_of : FuncData
  f_Rests_cost_by : Addr
  d_Rests_cost_by : FuncData
  f_Rests_next_sides : Addr
  d_Rests_next_sides : FuncData
  f_Rests_best_side : Addr
  d_Rests_best_side : FuncData
  f_l_cell_at : Addr
  d_l_cell_at : FuncData
  f_l_order : Addr
  d_l_order : FuncData
  f_l_refused : Addr
  d_l_refused : FuncData
  f_law : Addr
  d_law : FuncData
  tb : Addr
set_option genInjectivity false in
structure Txt (w : World) (K : PySem.W.Frag) (mg : Str → Option Value) (t : Adr) : Prop where
  cl : Cls K t.c_Flight
  mkc : Mk K t.c_Flight t.f_init
  cl_Rehearsal : Cls K t.c_Rehearsal
  mkc_Rehearsal : Mk K t.c_Rehearsal t.f_Rehearsal_init
  cl_Stand : Cls K t.c_Stand
  mkc_Stand : Mk K t.c_Stand t.f_Stand_init
  cl_Rests : Cls K t.c_Rests
  mkc_Rests : Mk K t.c_Rests t.f_Rests_init
  g_Flight : mg "Flight" = some (.ref t.c_Flight)
  g_Rehearsal : mg "Rehearsal" = some (.ref t.c_Rehearsal)
  g_Stand : mg "Stand" = some (.ref t.c_Stand)
  g_Rests : mg "Rests" = some (.ref t.c_Rests)
  g_LockError : mg "LockError" = some (.ref t.c_LockError)
  g_BadFlight : mg "BadFlight" = some (.ref t.c_BadFlight)
  g_NoGate : mg "NoGate" = some (.ref t.c_NoGate)
  g_NoFall : mg "NoFall" = some (.ref t.c_NoFall)
  g_NoBoat : mg "NoBoat" = some (.ref t.c_NoBoat)
  g_NotFirst : mg "NotFirst" = some (.ref t.c_NotFirst)
  g_Shut : mg "Shut" = some (.ref t.c_Shut)
  g_Occupied : mg "Occupied" = some (.ref t.c_Occupied)
  g_BadText : mg "BadText" = some (.ref t.c_BadText)
  x_LockError : PySem.W.excIn K t.c_LockError [.type "ValueError", .type "Exception", .type "BaseException", .type "object"] "ValueError.__new__" = true
  x_BadFlight : PySem.W.excIn K t.c_BadFlight [.type "ValueError", .type "Exception", .type "BaseException", .type "object"] "ValueError.__new__" = true
  x_NoGate : PySem.W.excIn K t.c_NoGate [.type "ValueError", .type "Exception", .type "BaseException", .type "object"] "ValueError.__new__" = true
  x_NoFall : PySem.W.excIn K t.c_NoFall [.type "ValueError", .type "Exception", .type "BaseException", .type "object"] "ValueError.__new__" = true
  x_NoBoat : PySem.W.excIn K t.c_NoBoat [.type "ValueError", .type "Exception", .type "BaseException", .type "object"] "ValueError.__new__" = true
  x_NotFirst : PySem.W.excIn K t.c_NotFirst [.type "ValueError", .type "Exception", .type "BaseException", .type "object"] "ValueError.__new__" = true
  x_Shut : PySem.W.excIn K t.c_Shut [.type "ValueError", .type "Exception", .type "BaseException", .type "object"] "ValueError.__new__" = true
  x_Occupied : PySem.W.excIn K t.c_Occupied [.type "ValueError", .type "Exception", .type "BaseException", .type "object"] "ValueError.__new__" = true
  x_BadText : PySem.W.excIn K t.c_BadText [.type "ValueError", .type "Exception", .type "BaseException", .type "object"] "ValueError.__new__" = true
  g_MOST_CHAMBERS : mg "MOST_CHAMBERS" = some (.int 8 t.k_MOST_CHAMBERS)
  n_gone : NoAttr K t.c_Flight "gone"
  n_high : NoAttr K t.c_Flight "high"
  n_inside : NoAttr K t.c_Flight "inside"
  n_lockfuls_drawn : NoAttr K t.c_Flight "lockfuls_drawn"
  n_lockfuls_out : NoAttr K t.c_Flight "lockfuls_out"
  n_rows : NoAttr K t.c_Flight "rows"
  n_sides : NoAttr K t.c_Flight "sides"
  n_Rehearsal_deeds : NoAttr K t.c_Rehearsal "deeds"
  n_Rehearsal_flight : NoAttr K t.c_Rehearsal "flight"
  n_Rests_known : NoAttr K t.c_Rests "known"
  n_Rests_patience : NoAttr K t.c_Rests "patience"
  n_Stand_last : NoAttr K t.c_Stand "last"
  n_Stand_left : NoAttr K t.c_Stand "left"
  n_Stand_run : NoAttr K t.c_Stand "run"
  F_init : Fun K "__init__" "Flight.__init__" s_init t.f_init t.d_init
  b_init : Binds K t.d_init ["self", "levels"] []
  F_levels : Fun K "levels" "Flight.levels" s_levels t.f_levels t.d_levels
  b_levels : Binds K t.d_levels ["self"] []
  m_levels : Meth K t.c_Flight "levels" t.f_levels
  F_side : Fun K "side" "Flight.side" s_side t.f_side t.d_side
  b_side : Binds K t.d_side ["self", "boat"] []
  m_side : Meth K t.c_Flight "side" t.f_side
  F_place : Fun K "place" "Flight.place" s_place t.f_place t.d_place
  b_place : Binds K t.d_place ["self", "boat"] []
  m_place : Meth K t.c_Flight "place" t.f_place
  F_come : Fun K "come" "Flight.come" s_come t.f_come t.d_come
  b_come : Binds K t.d_come ["self", "side"] []
  m_come : Meth K t.c_Flight "come" t.f_come
  F_let : Fun K "let" "Flight.let" s_let t.f_let t.d_let
  b_let : Binds K t.d_let ["self", "gate"] []
  m_let : Meth K t.c_Flight "let" t.f_let
  F_sail : Fun K "sail" "Flight.sail" s_sail t.f_sail t.d_sail
  b_sail : Binds K t.d_sail ["self", "boat"] []
  m_sail : Meth K t.c_Flight "sail" t.f_sail
  F_summit : Fun K "summit" "Flight.summit" s_summit t.f_summit t.d_summit
  b_summit : Binds K t.d_summit ["self"] []
  m_summit : Meth K t.c_Flight "summit" t.f_summit
  F_is_chamber : Fun K "is_chamber" "Flight.is_chamber" s_is_chamber t.f_is_chamber t.d_is_chamber
  b_is_chamber : Binds K t.d_is_chamber ["self", "place"] []
  m_is_chamber : Meth K t.c_Flight "is_chamber" t.f_is_chamber
  F_can_give : Fun K "can_give" "Flight.can_give" s_can_give t.f_can_give t.d_can_give
  b_can_give : Binds K t.d_can_give ["self", "place"] []
  m_can_give : Meth K t.c_Flight "can_give" t.f_can_give
  F_can_take : Fun K "can_take" "Flight.can_take" s_can_take t.f_can_take t.d_can_take
  b_can_take : Binds K t.d_can_take ["self", "place"] []
  m_can_take : Meth K t.c_Flight "can_take" t.f_can_take
  F_is_level : Fun K "is_level" "Flight.is_level" s_is_level t.f_is_level t.d_is_level
  b_is_level : Binds K t.d_is_level ["self", "gate"] []
  m_is_level : Meth K t.c_Flight "is_level" t.f_is_level
  F_give : Fun K "give" "Flight.give" s_give t.f_give t.d_give
  b_give : Binds K t.d_give ["self", "place"] []
  m_give : Meth K t.c_Flight "give" t.f_give
  F_take : Fun K "take" "Flight.take" s_take t.f_take t.d_take
  b_take : Binds K t.d_take ["self", "place"] []
  m_take : Meth K t.c_Flight "take" t.f_take
  F_leave : Fun K "leave" "Flight.leave" s_leave t.f_leave t.d_leave
  b_leave : Binds K t.d_leave ["self", "place", "side"] []
  m_leave : Meth K t.c_Flight "leave" t.f_leave
  F_enter : Fun K "enter" "Flight.enter" s_enter t.f_enter t.d_enter
  b_enter : Binds K t.d_enter ["self", "place", "boat"] []
  m_enter : Meth K t.c_Flight "enter" t.f_enter
  F_cost : Fun K "cost" "cost" s_cost t.f_cost t.d_cost
  b_cost : Binds K t.d_cost ["levels", "order"] []
  g_cost : mg "cost" = some (.ref t.f_cost)
  F_boat_cost : Fun K "boat_cost" "boat_cost" s_boat_cost t.f_boat_cost t.d_boat_cost
  b_boat_cost : Binds K t.d_boat_cost ["high", "side"] []
  g_boat_cost : mg "boat_cost" = some (.ref t.f_boat_cost)
  F_levels_behind : Fun K "levels_behind" "levels_behind" s_levels_behind t.f_levels_behind t.d_levels_behind
  b_levels_behind : Binds K t.d_levels_behind ["many", "side"] []
  g_levels_behind : mg "levels_behind" = some (.ref t.f_levels_behind)
  F_plan : Fun K "plan" "plan" s_plan t.f_plan t.d_plan
  b_plan : Binds K t.d_plan ["levels", "order"] []
  g_plan : mg "plan" = some (.ref t.f_plan)
  F_Rehearsal_init : Fun K "__init__" "Rehearsal.__init__" s_Rehearsal_init t.f_Rehearsal_init t.d_Rehearsal_init
  b_Rehearsal_init : Binds K t.d_Rehearsal_init ["self", "levels"] []
  F_Rehearsal_bring_up : Fun K "bring_up" "Rehearsal.bring_up" s_Rehearsal_bring_up t.f_Rehearsal_bring_up t.d_Rehearsal_bring_up
  b_Rehearsal_bring_up : Binds K t.d_Rehearsal_bring_up ["self", "boat"] []
  m_Rehearsal_bring_up : Meth K t.c_Rehearsal "bring_up" t.f_Rehearsal_bring_up
  F_Rehearsal_bring_down : Fun K "bring_down" "Rehearsal.bring_down" s_Rehearsal_bring_down t.f_Rehearsal_bring_down t.d_Rehearsal_bring_down
  b_Rehearsal_bring_down : Binds K t.d_Rehearsal_bring_down ["self", "boat"] []
  m_Rehearsal_bring_down : Meth K t.c_Rehearsal "bring_down" t.f_Rehearsal_bring_down
  F_Rehearsal_make_high : Fun K "make_high" "Rehearsal.make_high" s_Rehearsal_make_high t.f_Rehearsal_make_high t.d_Rehearsal_make_high
  b_Rehearsal_make_high : Binds K t.d_Rehearsal_make_high ["self", "chamber"] []
  m_Rehearsal_make_high : Meth K t.c_Rehearsal "make_high" t.f_Rehearsal_make_high
  F_Rehearsal_make_low : Fun K "make_low" "Rehearsal.make_low" s_Rehearsal_make_low t.f_Rehearsal_make_low t.d_Rehearsal_make_low
  b_Rehearsal_make_low : Binds K t.d_Rehearsal_make_low ["self", "chamber"] []
  m_Rehearsal_make_low : Meth K t.c_Rehearsal "make_low" t.f_Rehearsal_make_low
  F_Rehearsal_highest : Fun K "highest" "Rehearsal.highest" s_Rehearsal_highest t.f_Rehearsal_highest t.d_Rehearsal_highest
  b_Rehearsal_highest : Binds K t.d_Rehearsal_highest ["self"] []
  m_Rehearsal_highest : Meth K t.c_Rehearsal "highest" t.f_Rehearsal_highest
  F_Rehearsal_is_high : Fun K "is_high" "Rehearsal.is_high" s_Rehearsal_is_high t.f_Rehearsal_is_high t.d_Rehearsal_is_high
  b_Rehearsal_is_high : Binds K t.d_Rehearsal_is_high ["self", "chamber"] []
  m_Rehearsal_is_high : Meth K t.c_Rehearsal "is_high" t.f_Rehearsal_is_high
  F_Rehearsal_let : Fun K "let" "Rehearsal.let" s_Rehearsal_let t.f_Rehearsal_let t.d_Rehearsal_let
  b_Rehearsal_let : Binds K t.d_Rehearsal_let ["self", "gate"] []
  m_Rehearsal_let : Meth K t.c_Rehearsal "let" t.f_Rehearsal_let
  F_Rehearsal_sail : Fun K "sail" "Rehearsal.sail" s_Rehearsal_sail t.f_Rehearsal_sail t.d_Rehearsal_sail
  b_Rehearsal_sail : Binds K t.d_Rehearsal_sail ["self", "boat"] []
  m_Rehearsal_sail : Meth K t.c_Rehearsal "sail" t.f_Rehearsal_sail
  F_best : Fun K "best" "best" s_best t.f_best t.d_best
  b_best : Binds K t.d_best ["levels", "ups", "downs", "patience"] []
  g_best : mg "best" = some (.ref t.f_best)
  F_Stand_init : Fun K "__init__" "Stand.__init__" s_Stand_init t.f_Stand_init t.d_Stand_init
  b_Stand_init : Binds K t.d_Stand_init ["self", "ups", "downs", "last", "run"] []
  F_Stand_is_empty : Fun K "is_empty" "Stand.is_empty" s_Stand_is_empty t.f_Stand_is_empty t.d_Stand_is_empty
  b_Stand_is_empty : Binds K t.d_Stand_is_empty ["self"] []
  m_Stand_is_empty : Meth K t.c_Stand "is_empty" t.f_Stand_is_empty
  F_Stand_may_go : Fun K "may_go" "Stand.may_go" s_Stand_may_go t.f_Stand_may_go t.d_Stand_may_go
  b_Stand_may_go : Binds K t.d_Stand_may_go ["self", "side", "patience"] []
  m_Stand_may_go : Meth K t.c_Stand "may_go" t.f_Stand_may_go
  F_Stand_behind : Fun K "behind" "Stand.behind" s_Stand_behind t.f_Stand_behind t.d_Stand_behind
  b_Stand_behind : Binds K t.d_Stand_behind ["self", "side"] []
  m_Stand_behind : Meth K t.c_Stand "behind" t.f_Stand_behind
  F_Stand_mark : Fun K "mark" "Stand.mark" s_Stand_mark t.f_Stand_mark t.d_Stand_mark
  b_Stand_mark : Binds K t.d_Stand_mark ["self"] []
  m_Stand_mark : Meth K t.c_Stand "mark" t.f_Stand_mark
  F_Rests_init : Fun K "__init__" "Rests.__init__" s_Rests_init t.f_Rests_init t.d_Rests_init
  b_Rests_init : Binds K t.d_Rests_init ["self", "patience"] []
  F_Rests_rest_of : Fun K "rest_of" "Rests.rest_of" s_Rests_rest_of t.f_Rests_rest_of t.d_Rests_rest_of
  b_Rests_rest_of : Binds K t.d_Rests_rest_of ["self", "stand", "high"] []
  m_Rests_rest_of : Meth K t.c_Rests "rest_of" t.f_Rests_rest_of
  F_Rests_cost_by : Fun K "cost_by" "Rests.cost_by" s_Rests_cost_by t.f_Rests_cost_by t.d_Rests_cost_by
  b_Rests_cost_by : Binds K t.d_Rests_cost_by ["self", "side", "stand", "high"] []
  m_Rests_cost_by : Meth K t.c_Rests "cost_by" t.f_Rests_cost_by
  F_Rests_next_sides : Fun K "next_sides" "Rests.next_sides" s_Rests_next_sides t.f_Rests_next_sides t.d_Rests_next_sides
  b_Rests_next_sides : Binds K t.d_Rests_next_sides ["self", "stand"] []
  m_Rests_next_sides : Meth K t.c_Rests "next_sides" t.f_Rests_next_sides
  F_Rests_best_side : Fun K "best_side" "Rests.best_side" s_Rests_best_side t.f_Rests_best_side t.d_Rests_best_side
  b_Rests_best_side : Binds K t.d_Rests_best_side ["self", "stand", "high"] []
  m_Rests_best_side : Meth K t.c_Rests "best_side" t.f_Rests_best_side
  F_l_cell_at : Fun K "_law_cell_at" "_law_cell_at" s_l_cell_at t.f_l_cell_at t.d_l_cell_at
  b_l_cell_at : Binds K t.d_l_cell_at ["script", "k"] []
  g_l_cell_at : mg "_law_cell_at" = some (.ref t.f_l_cell_at)
  F_l_order : Fun K "_law_order" "_law_order" s_l_order t.f_l_order t.d_l_order
  b_l_order : Binds K t.d_l_order ["script", "start", "size"] []
  g_l_order : mg "_law_order" = some (.ref t.f_l_order)
  F_l_refused : Fun K "_law_refused" "_law_refused" s_l_refused t.f_l_refused t.d_l_refused
  b_l_refused : Binds K t.d_l_refused ["way", "levels", "order", "patience"] []
  g_l_refused : mg "_law_refused" = some (.ref t.f_l_refused)
  F_law : Fun K "law" "law" s_law t.f_law t.d_law
  b_law : Binds K t.d_law ["script"] []
  g_law : mg "law" = some (.ref t.f_law)
  z_dict : mg "dict" = none
  z_enumerate : mg "enumerate" = none
  z_isinstance : mg "isinstance" = none
  z_len : mg "len" = none
  z_list : mg "list" = none
  z_min : mg "min" = none
  z_range : mg "range" = none
  L_best : LamK K mg t.d_Rests_best_side.code t.tb
  w_BadFlight : ExcC K t.c_BadFlight
  q_int_int : PySem.W.kitOne K (.type "int") (.type "int") = some true
  q_int_bool : PySem.W.kitOne K (.type "int") (.type "bool") = some false
  q_bool_bool : PySem.W.kitOne K (.type "bool") (.type "bool") = some true
  q_list_list : PySem.W.kitOne K (.type "list") (.type "list") = some true
  q_BF_BF : PySem.W.exmOne K (.ref t.c_BadFlight) (.ref t.c_BadFlight) = some true
  q_i_BF_LE : PySem.W.kitOne K (.ref t.c_BadFlight) (.ref t.c_LockError) = some true
  q_i_BF_NG : PySem.W.kitOne K (.ref t.c_BadFlight) (.ref t.c_NoGate) = some false
  q_i_BF_BT : PySem.W.kitOne K (.ref t.c_BadFlight) (.ref t.c_BadText) = some false

theorem ixN_nat {n : Nat} {i : Int} (h0 : 0 ≤ i) (h1 : i < n) : ixN n i = some i.toNat := by
  unfold ixN; simp [h0, h1]
structure FA where
  p : Addr
  h : Addr
  i : Addr
  r : Addr
  u : Addr
  d : Addr
  s : Addr
  g : Addr
def FA.foot (a : FA) : List Addr := [a.p, a.h, a.i, a.r, a.u, a.d, a.s, a.g]
def flds (a : FA) (dr ou : Int) : List (Str × V) := [("high", .ref a.h), ("inside", .ref a.i), ("rows", .ref a.r), ("sides", .ref a.s), ("gone", .ref a.g), ("lockfuls_drawn", .int dr), ("lockfuls_out", .int ou)]
theorem fl_high (a : FA) (dr ou : Int) : (flds a dr ou).lookup ("high" : Str) = some (V.ref a.h) := rfl
theorem fl_drawn (a : FA) (dr ou : Int) : (flds a dr ou).lookup ("lockfuls_drawn" : Str) = some (V.int dr) := rfl
theorem fl_out (a : FA) (dr ou : Int) : (flds a dr ou).lookup ("lockfuls_out" : Str) = some (V.int ou) := rfl
theorem fl_inside (a : FA) (dr ou : Int) : (flds a dr ou).lookup ("inside" : Str) = some (V.ref a.i) := rfl
theorem fl_rows (a : FA) (dr ou : Int) : (flds a dr ou).lookup ("rows" : Str) = some (V.ref a.r) := rfl
theorem fl_sides (a : FA) (dr ou : Int) : (flds a dr ou).lookup ("sides" : Str) = some (V.ref a.s) := rfl
theorem fl_gone (a : FA) (dr ou : Int) : (flds a dr ou).lookup ("gone" : Str) = some (V.ref a.g) := rfl
theorem fl_putD (a : FA) (dr ou x : Int) : putF "lockfuls_drawn" (.int x) (flds a dr ou) = flds a x ou := rfl
theorem fl_putO (a : FA) (dr ou x : Int) : putF "lockfuls_out" (.int x) (flds a dr ou) = flds a dr x := rfl
theorem fl_len (a : FA) (dr ou : Int) : (flds a dr ou).length = 7 := rfl
theorem fn_summit (a : FA) (dr ou : Int) : (flds a dr ou).lookup ("summit" : Str) = none := rfl
theorem fn_is_chamber (a : FA) (dr ou : Int) : (flds a dr ou).lookup ("is_chamber" : Str) = none := rfl
theorem fn_can_give (a : FA) (dr ou : Int) : (flds a dr ou).lookup ("can_give" : Str) = none := rfl
theorem fn_can_take (a : FA) (dr ou : Int) : (flds a dr ou).lookup ("can_take" : Str) = none := rfl
theorem fn_give (a : FA) (dr ou : Int) : (flds a dr ou).lookup ("give" : Str) = none := rfl
theorem fn_take (a : FA) (dr ou : Int) : (flds a dr ou).lookup ("take" : Str) = none := rfl
theorem fn_let (a : FA) (dr ou : Int) : (flds a dr ou).lookup ("let" : Str) = none := rfl
theorem fn_levels (a : FA) (dr ou : Int) : (flds a dr ou).lookup ("levels" : Str) = none := rfl
theorem fn_drawn (a : FA) (dr ou : Int) : (flds a dr ou).lookup ("drawn" : Str) = none := rfl
theorem fn_out (a : FA) (dr ou : Int) : (flds a dr ou).lookup ("out" : Str) = none := rfl
theorem fn_boats (a : FA) (dr ou : Int) : (flds a dr ou).lookup ("boats" : Str) = none := rfl
theorem fn_waiting (a : FA) (dr ou : Int) : (flds a dr ou).lookup ("waiting" : Str) = none := rfl
theorem fn_through (a : FA) (dr ou : Int) : (flds a dr ou).lookup ("through" : Str) = none := rfl
theorem fn_side (a : FA) (dr ou : Int) : (flds a dr ou).lookup ("side" : Str) = none := rfl
theorem fn_place (a : FA) (dr ou : Int) : (flds a dr ou).lookup ("place" : Str) = none := rfl
theorem fn_come (a : FA) (dr ou : Int) : (flds a dr ou).lookup ("come" : Str) = none := rfl
theorem fn_sail (a : FA) (dr ou : Int) : (flds a dr ou).lookup ("sail" : Str) = none := rfl
theorem fn_is_level (a : FA) (dr ou : Int) : (flds a dr ou).lookup ("is_level" : Str) = none := rfl
theorem fn_leave (a : FA) (dr ou : Int) : (flds a dr ou).lookup ("leave" : Str) = none := rfl
theorem fn_enter (a : FA) (dr ou : Int) : (flds a dr ou).lookup ("enter" : Str) = none := rfl
def bls (l : List Bool) : List V := l.map V.bl
def insV (l : List (Option Int)) : List V := l.map fun x => match x with | none => V.non | some b => V.int b
def intV (l : List Int) : List V := l.map V.int
def sid (b : Bool) : V := .str (if b then "down" else "up")
def sidV (l : List Bool) : List V := l.map sid
structure FlAt (t : Adr) (H : Hp) (a : FA) (f : Fl) : Prop where
  ob : ∃ dx, H a.p = some (.ins t.c_Flight dx (flds a f.drawn f.out))
  hi : H a.h = some (.lst (bls f.high))
  ins : H a.i = some (.lst (insV f.inside))
  row : H a.r = some (.dK [(Sum.inr "up", .ref a.u), (Sum.inr "down", .ref a.d)])
  up : H a.u = some (.lst (intV f.up))
  dn : H a.d = some (.lst (intV f.down))
  sd : H a.s = some (.lst (sidV f.sides))
  gn : H a.g = some (.lst (intV f.gone))
  nd : a.foot.Nodup


theorem at_bls {l : List Bool} {i : Int} (h0 : 0 ≤ i) (h1 : i < l.length) : atI (bls l) i = some (.bl (l.getD i.toNat false)) := by
  unfold atI bls
  rw [List.length_map, ixN_nat h0 h1]
  have : i.toNat < l.length := by omega
  simp [List.getD, this]
theorem set_bls (l : List Bool) (j : Nat) (b : Bool) : (bls l).set j (.bl b) = bls (l.set j b) := by unfold bls; rw [List.map_set]
theorem len_bls (l : List Bool) : (bls l).length = l.length := by unfold bls; simp
theorem FlAt.ne {t : Adr} {H : Hp} {a : FA} {f : Fl} (F : FlAt t H a f) : (a.p ≠ a.h ∧ a.p ≠ a.i ∧ a.p ≠ a.r ∧ a.p ≠ a.u ∧ a.p ≠ a.d ∧ a.p ≠ a.s ∧ a.p ≠ a.g) ∧ (a.h ≠ a.i ∧ a.h ≠ a.r ∧ a.h ≠ a.u ∧ a.h ≠ a.d ∧ a.h ≠ a.s ∧ a.h ≠ a.g) ∧
    (a.i ≠ a.r ∧ a.i ≠ a.u ∧ a.i ≠ a.d ∧ a.i ≠ a.s ∧ a.i ≠ a.g) ∧ (a.r ≠ a.u ∧ a.r ≠ a.d ∧ a.r ≠ a.s ∧ a.r ≠ a.g) ∧ (a.u ≠ a.d ∧ a.u ≠ a.s ∧ a.u ≠ a.g) ∧ (a.d ≠ a.s ∧ a.d ≠ a.g) ∧ a.s ≠ a.g := by
  have n := F.nd
  simp only [FA.foot, List.nodup_cons, List.mem_cons, List.not_mem_nil, or_false, not_or, List.nodup_nil, and_true, not_false_eq_true] at n
  exact n
theorem FlAt.setHigh {t : Adr} {H : Hp} {a : FA} {f : Fl} (F : FlAt t H a f) (h : List Bool) : FlAt t (upd H a.h (.lst (bls h))) a { f with high := h } := by
  obtain ⟨⟨n1, _⟩, ⟨n2, n3, n4, n5, n6, n7⟩, _⟩ := F.ne
  obtain ⟨⟨dx, h1⟩, h2, h3, h4, h5, h6, h7, h8, h9⟩ := F
  exact ⟨⟨dx, by rw [upd_ne n1]; exact h1⟩, upd_same, by rw [upd_ne n2.symm]; exact h3, by rw [upd_ne n3.symm]; exact h4, by rw [upd_ne n4.symm]; exact h5, by rw [upd_ne n5.symm]; exact h6, by rw [upd_ne n6.symm]; exact h7, by rw [upd_ne n7.symm]; exact h8, h9⟩
theorem FlAt.setWater {t : Adr} {H : Hp} {a : FA} {f : Fl} {dx : Addr} (F : FlAt t H a f) (x y : Int) : FlAt t (upd H a.p (.ins t.c_Flight dx (flds a x y))) a { f with drawn := x, out := y } := by
  obtain ⟨⟨n1, n2, n3, n4, n5, n6, n7⟩, _⟩ := F.ne
  obtain ⟨_, h2, h3, h4, h5, h6, h7, h8, h9⟩ := F
  exact ⟨⟨dx, upd_same⟩, by rw [upd_ne n1.symm]; exact h2, by rw [upd_ne n2.symm]; exact h3, by rw [upd_ne n3.symm]; exact h4, by rw [upd_ne n4.symm]; exact h5, by rw [upd_ne n5.symm]; exact h6, by rw [upd_ne n6.symm]; exact h7, by rw [upd_ne n7.symm]; exact h8, h9⟩
theorem FlAt.but {t : Adr} {H H' : Hp} {a : FA} {f : Fl} {xs : List Addr} (F : FlAt t H a f) (b : But xs H H') (n : ∀ y ∈ a.foot, y ∉ xs) : FlAt t H' a f := by
  obtain ⟨⟨dx, h1⟩, h2, h3, h4, h5, h6, h7, h8, h9⟩ := F
  exact ⟨⟨dx, b _ _ h1 (n _ (by simp [FA.foot]))⟩, b _ _ h2 (n _ (by simp [FA.foot])), b _ _ h3 (n _ (by simp [FA.foot])), b _ _ h4 (n _ (by simp [FA.foot])), b _ _ h5 (n _ (by simp [FA.foot])), b _ _ h6 (n _ (by simp [FA.foot])), b _ _ h7 (n _ (by simp [FA.foot])), b _ _ h8 (n _ (by simp [FA.foot])), h9⟩
theorem FlAt.same {t : Adr} {H H' : Hp} {a : FA} {f : Fl} (F : FlAt t H a f) (s : Same H H') : FlAt t H' a f := F.but (xs := []) (But.same s) fun _ _ z => nomatch z
theorem mp (a : FA) : a.p ∈ a.foot := by simp [FA.foot]
theorem mh (a : FA) : a.h ∈ a.foot := by simp [FA.foot]

section
variable {P : Program} {w : World} {K : PySem.W.Frag} {mg : Str → Option Value} {base : Heap} {t : Adr}
inductive sp_summit (t : Adr) (vs : List V) (H : Hp) (Q : VK) (E_ : XK) : Prop
  | mk (a : FA) (f : Fl) (z0 : vs = [.ref a.p]) (z1 : FlAt t H a f) (z2 : Q (.int ((f.high.length : Int) + 1)) H) : sp_summit t vs H Q E_
inductive sp_place (t : Adr) (v : Fl → Int → V) (vs : List V) (H : Hp) (Q : VK) (E_ : XK) : Prop
  | mk (a : FA) (f : Fl) (p : Int) (z0 : vs = [.ref a.p, .int p]) (z1 : FlAt t H a f) (z2 : Q (v f p) H) : sp_place t v vs H Q E_
theorem sc_summit : FnScope ["self"] ["self"] (defScope s_summit) := ⟨rfl, rfl, rfl, by decide +kernel, rfl, by decide +kernel, by decide +kernel⟩
set_option maxHeartbeats 800000 in
theorem ok_summit (T : Txt w K mg t) : FnOk P w K mg base (CXe P w) 1 t.f_summit t.d_summit ["self"] (sp_summit t) := by
  refine okX T.F_summit sc_summit (fun vs H Q E h => ?_) (fun cdv A outer s H vs Q E hr h => ?_)
  · obtain ⟨a, f, rfl, _⟩ := h; rfl
  · obtain ⟨a, f, rfl, hF, k⟩ := h
    obtain ⟨⟨dx, h1⟩, h2, _⟩ := id hF
    refine ⟨_, (pss_one (ps_ret (pe_op ou_add (pe_callB cu_len rfl T.z_len PySem.boot_len (pa_cons (eu_fldK (K := K) rfl (pu 0)) pa_nil)) pe_int))), ?_⟩
    simp_arith [tSeq, h1, h2, T.cl, T.n_high, T.n_inside, T.n_rows, T.n_sides, T.n_gone, T.n_lockfuls_drawn, T.n_lockfuls_out, fl_high, fl_drawn, fl_out, fn_summit, fn_is_chamber, fn_can_give, fn_can_take, fn_give, fn_take, fn_let, fn_levels, fn_drawn, fn_out, fn_boats, fn_waiting, fn_through, fn_side, fn_place, fn_come, fn_sail, fn_is_level, fn_leave, fn_enter, fl_putD, fl_putO, fl_len]
    simpa [bls] using k
theorem sc_is_chamber : FnScope ["self", "place"] ["self", "place"] (defScope s_is_chamber) := ⟨rfl, rfl, rfl, by decide +kernel, rfl, by decide +kernel, by decide +kernel⟩
set_option maxHeartbeats 800000 in
theorem ok_is_chamber (T : Txt w K mg t) : FnOk P w K mg base (CXe P w) 2 t.f_is_chamber t.d_is_chamber ["self", "place"] (sp_place t fun f p => .bl (isCh f.high.length p)) := by
  have G_summit := ok_summit (P := P) (w := w) (base := base) T
  refine okX T.F_is_chamber sc_is_chamber (fun vs H Q E h => ?_) (fun cdv A outer s H vs Q E hr h => ?_)
  · obtain ⟨a, f, p, rfl, _⟩ := h; rfl
  · obtain ⟨a, f, p, rfl, hF, k⟩ := h
    obtain ⟨⟨dx, h1⟩, h2, _⟩ := id hF
    refine ⟨_, (pss_one (ps_ret (eu_and (pe_cmpR ou_gt (pu 1) pe_int (nomark _)) (pe_one (pe_cmpR ou_lt (pu 1) (eu_meth0 (pu 0) T.cl T.m_summit G_summit (hr.mono (by decide)) T.b_summit passB) (nomark _)))))), ?_⟩
    simp_arith [tSeq, h1, h2, T.cl, T.n_high, T.n_inside, T.n_rows, T.n_sides, T.n_gone, T.n_lockfuls_drawn, T.n_lockfuls_out, fl_high, fl_drawn, fl_out, fn_summit, fn_is_chamber, fn_can_give, fn_can_take, fn_give, fn_take, fn_let, fn_levels, fn_drawn, fn_out, fn_boats, fn_waiting, fn_through, fn_side, fn_place, fn_come, fn_sail, fn_is_level, fn_leave, fn_enter, fl_putD, fl_putO, fl_len]
    unfold isCh at k
    by_cases c : 0 < p
    · simp only [c, decide_true, if_true, Bool.true_and] at k ⊢
      exact ⟨a, f, rfl, hF, k⟩
    · simp only [c, decide_false, Bool.false_eq_true, if_false, Bool.false_and] at k ⊢
      exact k
theorem sc_can_give : FnScope ["self", "place"] ["self", "place"] (defScope s_can_give) := ⟨rfl, rfl, rfl, by decide +kernel, rfl, by decide +kernel, by decide +kernel⟩
set_option maxHeartbeats 800000 in
theorem ok_can_give (T : Txt w K mg t) : FnOk P w K mg base (CXe P w) 3 t.f_can_give t.d_can_give ["self", "place"] (sp_place t fun f p => .bl (Lf.canGive f.high p)) := by
  have G_is_chamber := ok_is_chamber (P := P) (w := w) (base := base) T
  refine okX T.F_can_give sc_can_give (fun vs H Q E h => ?_) (fun cdv A outer s H vs Q E hr h => ?_)
  · obtain ⟨a, f, p, rfl, _⟩ := h; rfl
  · obtain ⟨a, f, p, rfl, hF, k⟩ := h
    obtain ⟨⟨dx, h1⟩, h2, _⟩ := id hF
    refine ⟨_, (pss_one (ps_ret (pe_ifExp (tu_val (eu_meth (pu 0) T.cl T.m_is_chamber G_is_chamber (hr.mono (by decide)) T.b_is_chamber passB (pa_cons (pu 1) pa_nil))) (eu_ix xu_seq (eu_fldK (K := K) rfl (pu 0)) (pe_op ou_sub (pu 1) pe_int)) pe_bl))), ?_⟩
    simp_arith [tSeq, h1, h2, T.cl, T.n_high, T.n_inside, T.n_rows, T.n_sides, T.n_gone, T.n_lockfuls_drawn, T.n_lockfuls_out, fl_high, fl_drawn, fl_out, fn_summit, fn_is_chamber, fn_can_give, fn_can_take, fn_give, fn_take, fn_let, fn_levels, fn_drawn, fn_out, fn_boats, fn_waiting, fn_through, fn_side, fn_place, fn_come, fn_sail, fn_is_level, fn_leave, fn_enter, fl_putD, fl_putO, fl_len]
    refine ⟨a, f, p, rfl, hF, ?_⟩
    try dsimp only at k
    unfold Lf.canGive at k
    cases c : isCh f.high.length p with
    | true =>
      have c' : 0 < p ∧ p < (f.high.length : Int) + 1 := by simpa [isCh] using c
      rw [c] at k
      simp_arith [tSeq, h1, h2, T.cl, T.n_high, T.n_inside, T.n_rows, T.n_sides, T.n_gone, T.n_lockfuls_drawn, T.n_lockfuls_out, fl_high, fl_drawn, fl_out, fn_summit, fn_is_chamber, fn_can_give, fn_can_take, fn_give, fn_take, fn_let, fn_levels, fn_drawn, fn_out, fn_boats, fn_waiting, fn_through, fn_side, fn_place, fn_come, fn_sail, fn_is_level, fn_leave, fn_enter, fl_putD, fl_putO, fl_len, c]
      rw [at_bls (by omega) (by omega)]
      simp only [give_p, true_and]
      exact k
    | false =>
      rw [c] at k
      simp_arith [tSeq, h1, h2, T.cl, T.n_high, T.n_inside, T.n_rows, T.n_sides, T.n_gone, T.n_lockfuls_drawn, T.n_lockfuls_out, fl_high, fl_drawn, fl_out, fn_summit, fn_is_chamber, fn_can_give, fn_can_take, fn_give, fn_take, fn_let, fn_levels, fn_drawn, fn_out, fn_boats, fn_waiting, fn_through, fn_side, fn_place, fn_come, fn_sail, fn_is_level, fn_leave, fn_enter, fl_putD, fl_putO, fl_len, c]
      exact k
theorem sc_can_take : FnScope ["self", "place"] ["self", "place"] (defScope s_can_take) := ⟨rfl, rfl, rfl, by decide +kernel, rfl, by decide +kernel, by decide +kernel⟩
set_option maxHeartbeats 800000 in
theorem ok_can_take (T : Txt w K mg t) : FnOk P w K mg base (CXe P w) 3 t.f_can_take t.d_can_take ["self", "place"] (sp_place t fun f p => .bl (Lf.canTake f.high p)) := by
  have G_is_chamber := ok_is_chamber (P := P) (w := w) (base := base) T
  refine okX T.F_can_take sc_can_take (fun vs H Q E h => ?_) (fun cdv A outer s H vs Q E hr h => ?_)
  · obtain ⟨a, f, p, rfl, _⟩ := h; rfl
  · obtain ⟨a, f, p, rfl, hF, k⟩ := h
    obtain ⟨⟨dx, h1⟩, h2, _⟩ := id hF
    refine ⟨_, (pss_one (ps_ret (pe_ifExp (tu_val (eu_meth (pu 0) T.cl T.m_is_chamber G_is_chamber (hr.mono (by decide)) T.b_is_chamber passB (pa_cons (pu 1) pa_nil))) (eu_not (eu_ix xu_seq (eu_fldK (K := K) rfl (pu 0)) (pe_op ou_sub (pu 1) pe_int))) pe_bl))), ?_⟩
    simp_arith [tSeq, h1, h2, T.cl, T.n_high, T.n_inside, T.n_rows, T.n_sides, T.n_gone, T.n_lockfuls_drawn, T.n_lockfuls_out, fl_high, fl_drawn, fl_out, fn_summit, fn_is_chamber, fn_can_give, fn_can_take, fn_give, fn_take, fn_let, fn_levels, fn_drawn, fn_out, fn_boats, fn_waiting, fn_through, fn_side, fn_place, fn_come, fn_sail, fn_is_level, fn_leave, fn_enter, fl_putD, fl_putO, fl_len]
    refine ⟨a, f, p, rfl, hF, ?_⟩
    try dsimp only at k
    unfold Lf.canTake at k
    cases c : isCh f.high.length p with
    | true =>
      have c' : 0 < p ∧ p < (f.high.length : Int) + 1 := by simpa [isCh] using c
      rw [c] at k
      simp_arith [tSeq, h1, h2, T.cl, T.n_high, T.n_inside, T.n_rows, T.n_sides, T.n_gone, T.n_lockfuls_drawn, T.n_lockfuls_out, fl_high, fl_drawn, fl_out, fn_summit, fn_is_chamber, fn_can_give, fn_can_take, fn_give, fn_take, fn_let, fn_levels, fn_drawn, fn_out, fn_boats, fn_waiting, fn_through, fn_side, fn_place, fn_come, fn_sail, fn_is_level, fn_leave, fn_enter, fl_putD, fl_putO, fl_len, c]
      rw [at_bls (by omega) (by omega)]
      simp only [give_p, true_and]
      exact k
    | false =>
      rw [c] at k
      simp_arith [tSeq, h1, h2, T.cl, T.n_high, T.n_inside, T.n_rows, T.n_sides, T.n_gone, T.n_lockfuls_drawn, T.n_lockfuls_out, fl_high, fl_drawn, fl_out, fn_summit, fn_is_chamber, fn_can_give, fn_can_take, fn_give, fn_take, fn_let, fn_levels, fn_drawn, fn_out, fn_boats, fn_waiting, fn_through, fn_side, fn_place, fn_come, fn_sail, fn_is_level, fn_leave, fn_enter, fl_putD, fl_putO, fl_len, c]
      exact k
inductive sp_do (t : Adr) (F : Fl → Int → Fl) (v : Fl → Int → V) (vs : List V) (H : Hp) (Q : VK) (E_ : XK) : Prop
  | mk (a : FA) (f : Fl) (p : Int) (z0 : vs = [.ref a.p, .int p]) (z1 : FlAt t H a f) (z2 : ∀ H', FlAt t H' a (F f p) → But a.foot H H' → Q (v f p) H') : sp_do t F v vs H Q E_
def giveF (f : Fl) (p : Int) : Fl := { f with high := giveH f.high p, drawn := f.drawn + (if isCh f.high.length p then 0 else 1) }
def takeF (f : Fl) (p : Int) : Fl := { f with high := takeH f.high p, out := f.out + (if isCh f.high.length p then 0 else 1) }
theorem sc_give : FnScope ["self", "place"] ["self", "place"] (defScope s_give) := ⟨rfl, rfl, rfl, by decide +kernel, rfl, by decide +kernel, by decide +kernel⟩
set_option maxHeartbeats 800000 in
theorem ok_give (T : Txt w K mg t) : FnOk P w K mg base (CXe P w) 3 t.f_give t.d_give ["self", "place"] (sp_do t giveF fun _ _ => .non) := by
  have G_is_chamber := ok_is_chamber (P := P) (w := w) (base := base) T
  refine okX T.F_give sc_give (fun vs H Q E h => ?_) (fun cdv A outer s H vs Q E hr h => ?_)
  · obtain ⟨a, f, p, rfl, _⟩ := h; rfl
  · obtain ⟨a, f, p, rfl, hF, k⟩ := h
    obtain ⟨⟨dx, h1⟩, h2, _⟩ := id hF
    refine ⟨_, (pss_one (ps_if (tu_val (eu_meth (pu 0) T.cl T.m_is_chamber G_is_chamber (hr.mono (by decide)) T.b_is_chamber passB (pa_cons (pu 1) pa_nil))) (pss_one (su_lput (eu_fldK (K := K) rfl (pu 0)) (pe_op ou_sub (pu 1) pe_int) pe_bl)) (pss_one (su_fldaugK (K := K) rfl (pu 0) pe_int iu_add)))), ?_⟩
    simp_arith [tSeq, h1, h2, T.cl, T.n_high, T.n_inside, T.n_rows, T.n_sides, T.n_gone, T.n_lockfuls_drawn, T.n_lockfuls_out, fl_high, fl_drawn, fl_out, fn_summit, fn_is_chamber, fn_can_give, fn_can_take, fn_give, fn_take, fn_let, fn_levels, fn_drawn, fn_out, fn_boats, fn_waiting, fn_through, fn_side, fn_place, fn_come, fn_sail, fn_is_level, fn_leave, fn_enter, fl_putD, fl_putO, fl_len]
    refine ⟨a, f, p, rfl, hF, ?_⟩
    unfold giveF giveH at k
    cases c : isCh f.high.length p with
    | true =>
      have c' : 0 < p ∧ p < (f.high.length : Int) + 1 := by simpa [isCh] using c
      simp only [c, if_true, Int.add_zero] at k
      simp_arith [tSeq, h1, h2, T.cl, T.n_high, T.n_inside, T.n_rows, T.n_sides, T.n_gone, T.n_lockfuls_drawn, T.n_lockfuls_out, fl_high, fl_drawn, fl_out, fn_summit, fn_is_chamber, fn_can_give, fn_can_take, fn_give, fn_take, fn_let, fn_levels, fn_drawn, fn_out, fn_boats, fn_waiting, fn_through, fn_side, fn_place, fn_come, fn_sail, fn_is_level, fn_leave, fn_enter, fl_putD, fl_putO, fl_len, c]
      rw [len_bls, ixN_nat (by omega) (by omega)]
      simp only [set_bls]
      exact k _ (hF.setHigh _) (But.upd (mh a))
    | false =>
      simp only [c, Bool.false_eq_true, if_false] at k
      simp_arith [tSeq, h1, h2, T.cl, T.n_high, T.n_inside, T.n_rows, T.n_sides, T.n_gone, T.n_lockfuls_drawn, T.n_lockfuls_out, fl_high, fl_drawn, fl_out, fn_summit, fn_is_chamber, fn_can_give, fn_can_take, fn_give, fn_take, fn_let, fn_levels, fn_drawn, fn_out, fn_boats, fn_waiting, fn_through, fn_side, fn_place, fn_come, fn_sail, fn_is_level, fn_leave, fn_enter, fl_putD, fl_putO, fl_len, c]
      exact ⟨by decide, k _ (hF.setWater _ _) (But.upd (mp a))⟩
theorem sc_take : FnScope ["self", "place"] ["self", "place"] (defScope s_take) := ⟨rfl, rfl, rfl, by decide +kernel, rfl, by decide +kernel, by decide +kernel⟩
set_option maxHeartbeats 800000 in
theorem ok_take (T : Txt w K mg t) : FnOk P w K mg base (CXe P w) 3 t.f_take t.d_take ["self", "place"] (sp_do t takeF fun _ _ => .non) := by
  have G_is_chamber := ok_is_chamber (P := P) (w := w) (base := base) T
  refine okX T.F_take sc_take (fun vs H Q E h => ?_) (fun cdv A outer s H vs Q E hr h => ?_)
  · obtain ⟨a, f, p, rfl, _⟩ := h; rfl
  · obtain ⟨a, f, p, rfl, hF, k⟩ := h
    obtain ⟨⟨dx, h1⟩, h2, _⟩ := id hF
    refine ⟨_, (pss_one (ps_if (tu_val (eu_meth (pu 0) T.cl T.m_is_chamber G_is_chamber (hr.mono (by decide)) T.b_is_chamber passB (pa_cons (pu 1) pa_nil))) (pss_one (su_lput (eu_fldK (K := K) rfl (pu 0)) (pe_op ou_sub (pu 1) pe_int) pe_bl)) (pss_one (su_fldaugK (K := K) rfl (pu 0) pe_int iu_add)))), ?_⟩
    simp_arith [tSeq, h1, h2, T.cl, T.n_high, T.n_inside, T.n_rows, T.n_sides, T.n_gone, T.n_lockfuls_drawn, T.n_lockfuls_out, fl_high, fl_drawn, fl_out, fn_summit, fn_is_chamber, fn_can_give, fn_can_take, fn_give, fn_take, fn_let, fn_levels, fn_drawn, fn_out, fn_boats, fn_waiting, fn_through, fn_side, fn_place, fn_come, fn_sail, fn_is_level, fn_leave, fn_enter, fl_putD, fl_putO, fl_len]
    refine ⟨a, f, p, rfl, hF, ?_⟩
    unfold takeF takeH at k
    cases c : isCh f.high.length p with
    | true =>
      have c' : 0 < p ∧ p < (f.high.length : Int) + 1 := by simpa [isCh] using c
      simp only [c, if_true, Int.add_zero] at k
      simp_arith [tSeq, h1, h2, T.cl, T.n_high, T.n_inside, T.n_rows, T.n_sides, T.n_gone, T.n_lockfuls_drawn, T.n_lockfuls_out, fl_high, fl_drawn, fl_out, fn_summit, fn_is_chamber, fn_can_give, fn_can_take, fn_give, fn_take, fn_let, fn_levels, fn_drawn, fn_out, fn_boats, fn_waiting, fn_through, fn_side, fn_place, fn_come, fn_sail, fn_is_level, fn_leave, fn_enter, fl_putD, fl_putO, fl_len, c]
      rw [len_bls, ixN_nat (by omega) (by omega)]
      simp only [set_bls]
      exact k _ (hF.setHigh _) (But.upd (mh a))
    | false =>
      simp only [c, Bool.false_eq_true, if_false] at k
      simp_arith [tSeq, h1, h2, T.cl, T.n_high, T.n_inside, T.n_rows, T.n_sides, T.n_gone, T.n_lockfuls_drawn, T.n_lockfuls_out, fl_high, fl_drawn, fl_out, fn_summit, fn_is_chamber, fn_can_give, fn_can_take, fn_give, fn_take, fn_let, fn_levels, fn_drawn, fn_out, fn_boats, fn_waiting, fn_through, fn_side, fn_place, fn_come, fn_sail, fn_is_level, fn_leave, fn_enter, fl_putD, fl_putO, fl_len, c]
      exact ⟨by decide, k _ (hF.setWater _ _) (But.upd (mp a))⟩
inductive sp_let (t : Adr) (vs : List V) (H : Hp) (Q : VK) (E : XK) : Prop
  | mk (a : FA) (f : Fl) (g : Int) (z0 : vs = [.ref a.p, .int g]) (z1 : FlAt t H a f) (z2 : (match letOut f.high g with | .noGate => E (.ref t.c_NoGate) none H | .noFall => E (.ref t.c_NoFall) none H | .done => ∀ H', FlAt t H' a (f.let g) → But a.foot H H' → Q (.int (f.let g).drawn) H')) : sp_let t vs H Q E
theorem let_give {f : Fl} {g : Int} : takeF (giveF f (g + 1)) g = f.let g := by
  unfold takeF giveF Fl.let letH
  have : (giveH f.high (g + 1)).length = f.high.length := by unfold giveH; split <;> simp
  simp only [this]
theorem sc_let : FnScope ["self", "gate"] ["self", "gate"] (defScope s_let) := ⟨rfl, rfl, rfl, by decide +kernel, rfl, by decide +kernel, by decide +kernel⟩
set_option maxHeartbeats 800000 in
theorem ok_let (T : Txt w K mg t) : FnOk P w K mg base (CXe P w) 4 t.f_let t.d_let ["self", "gate"] (sp_let t) := by
  have G_summit := ok_summit (P := P) (w := w) (base := base) T
  have G_can_give := ok_can_give (P := P) (w := w) (base := base) T
  have G_can_take := ok_can_take (P := P) (w := w) (base := base) T
  have G_give := ok_give (P := P) (w := w) (base := base) T
  have G_take := ok_take (P := P) (w := w) (base := base) T
  refine okX T.F_let sc_let (fun vs H Q E h => ?_) (fun cdv A outer s H vs Q E hr h => ?_)
  · obtain ⟨a, f, p, rfl, _⟩ := h; rfl
  · obtain ⟨a, f, g, rfl, hF, k⟩ := h
    obtain ⟨dx, h1⟩ := hF.ob
    refine ⟨_, (pss_cons (ps_if (PW.pt (pw_or (tu_cmp ou_lt (pu 1) pe_int (nomark _)) (pw_or1 (tu_cmp ou_ge (pu 1) (eu_meth0 (pu 0) T.cl T.m_summit G_summit (hr.mono (by decide)) T.b_summit passB) (nomark _))))) (pss_one (ps_raise raiseB rfl T.x_NoGate PySem.F.excBase_ValueError rfl T.g_NoGate (pa_cons pe_str pa_nil))) pss_nil)
 (pss_cons (ps_if (pt_not (tu_val (eu_meth (pu 0) T.cl T.m_can_give G_can_give (hr.mono (by decide)) T.b_can_give passB (pa_cons (pe_op ou_add (pu 1) pe_int) pa_nil)))) (pss_one (ps_raise raiseB rfl T.x_NoFall PySem.F.excBase_ValueError rfl T.g_NoFall (pa_cons pe_str pa_nil))) pss_nil)
 (pss_cons (ps_if (pt_not (tu_val (eu_meth (pu 0) T.cl T.m_can_take G_can_take (hr.mono (by decide)) T.b_can_take passB (pa_cons (pu 1) pa_nil)))) (pss_one (ps_raise raiseB rfl T.x_NoFall PySem.F.excBase_ValueError rfl T.g_NoFall (pa_cons pe_str pa_nil))) pss_nil)
 (pss_cons (ps_expr (eu_meth (pu 0) T.cl T.m_give G_give (hr.mono (by decide)) T.b_give passB (pa_cons (pe_op ou_add (pu 1) pe_int) pa_nil)))
 (pss_cons (ps_expr (eu_meth (pu 0) T.cl T.m_take G_take (hr.mono (by decide)) T.b_take passB (pa_cons (pu 1) pa_nil)))
 (pss_one (ps_ret (eu_fldK (K := K) rfl (pu 0))))))))), ?_⟩
    refine seqG fun R hR => ?_
    try simp_arith [h1, fn_summit, fn_is_chamber, fn_can_give, fn_can_take, fn_give, fn_take, fn_let, fn_levels, fn_drawn, fn_out, fn_boats, fn_waiting, fn_through, fn_side, fn_place, fn_come, fn_sail, fn_is_level, fn_leave, fn_enter]
    unfold letOut at k
    by_cases c0 : g < 0
    · rw [if_pos (.inl c0)] at k
      rw [if_pos (decide_eq_true c0)]
      try simp_arith [tRaise]
      exact ⟨by decide, k⟩
    rw [if_neg (fun z => c0 (of_decide_eq_true z))]
    refine ⟨a, f, rfl, hF, ?_⟩
    try simp_arith [true_and]
    by_cases c1 : (f.high.length : Int) + 1 ≤ g
    · rw [if_pos (.inr c1)] at k
      rw [if_pos (decide_eq_true c1)]
      try simp_arith [tRaise]
      exact ⟨by decide, k⟩
    rw [if_neg (fun z => c1 (of_decide_eq_true z))]
    rw [if_neg (fun z => z.elim c0 c1)] at k
    subst hR
    refine seqG fun R hR => ?_
    try simp_arith [h1, fn_summit, fn_is_chamber, fn_can_give, fn_can_take, fn_give, fn_take, fn_let, fn_levels, fn_drawn, fn_out, fn_boats, fn_waiting, fn_through, fn_side, fn_place, fn_come, fn_sail, fn_is_level, fn_leave, fn_enter]
    refine ⟨a, f, g + 1, rfl, hF, ?_⟩
    cases c2 : Lf.canGive f.high (g + 1) with
    | false =>
      rw [c2] at k
      try simp_arith [c2, Bool.not_false, tRaise]
      exact ⟨by decide, k⟩
    | true =>
      rw [c2] at k
      try simp_arith [c2, Bool.not_true]
      subst hR
      refine seqG fun R hR => ?_
      try simp_arith [h1, fn_summit, fn_is_chamber, fn_can_give, fn_can_take, fn_give, fn_take, fn_let, fn_levels, fn_drawn, fn_out, fn_boats, fn_waiting, fn_through, fn_side, fn_place, fn_come, fn_sail, fn_is_level, fn_leave, fn_enter]
      refine ⟨a, f, g, rfl, hF, ?_⟩
      cases c3 : Lf.canTake f.high g with
      | false =>
        rw [c3] at k
        try simp_arith [c3, Bool.not_false, tRaise]
        exact ⟨by decide, k⟩
      | true =>
        rw [c3] at k
        try simp_arith [c3, Bool.not_true]
        subst hR
        refine seqG fun R hR => ?_
        try simp_arith [h1, fn_summit, fn_is_chamber, fn_can_give, fn_can_take, fn_give, fn_take, fn_let, fn_levels, fn_drawn, fn_out, fn_boats, fn_waiting, fn_through, fn_side, fn_place, fn_come, fn_sail, fn_is_level, fn_leave, fn_enter]
        refine ⟨a, f, g + 1, rfl, hF, fun H1 F1 b1 => ?_⟩
        subst hR
        refine seqG fun R hR => ?_
        obtain ⟨dx1, h1⟩ := F1.ob
        try simp_arith [h1, fn_summit, fn_is_chamber, fn_can_give, fn_can_take, fn_give, fn_take, fn_let, fn_levels, fn_drawn, fn_out, fn_boats, fn_waiting, fn_through, fn_side, fn_place, fn_come, fn_sail, fn_is_level, fn_leave, fn_enter]
        refine ⟨a, _, g, rfl, F1, fun H2 F2 b2 => ?_⟩
        subst hR
        obtain ⟨dx2, h1⟩ := F2.ob
        try simp_arith [h1, T.cl, T.n_lockfuls_drawn, fl_drawn]
        have k' : ∀ H', FlAt t H' a (f.let g) → But a.foot H H' → Q (.int (f.let g).drawn) H' := k
        rw [← let_give] at k'
        exact k' _ F2 (b1.trans b2)
inductive sp_new (t : Adr) (v : Fl → List V) (vs : List V) (H : Hp) (Q : VK) (E_ : XK) : Prop
  | mk (a : FA) (f : Fl) (z0 : vs = [.ref a.p]) (z1 : FlAt t H a f) (z2 : ∀ l, H l = none → Q (.ref l) (upd H l (.lst (v f)))) : sp_new t v vs H Q E_
theorem sc_levels : FnScope ["self"] ["self"] (defScope s_levels) := ⟨rfl, rfl, rfl, by decide +kernel, rfl, by decide +kernel, by decide +kernel⟩
set_option maxHeartbeats 800000 in
theorem ok_levels (T : Txt w K mg t) : FnOk P w K mg base (CXe P w) 1 t.f_levels t.d_levels ["self"] (sp_new t fun f => bls f.high) := by
  refine okX T.F_levels sc_levels (fun vs H Q E h => ?_) (fun cdv A outer s H vs Q E hr h => ?_)
  · obtain ⟨a, f, rfl, _⟩ := h; rfl
  · obtain ⟨a, f, rfl, hF, k⟩ := h
    obtain ⟨⟨dx, h1⟩, h2, _⟩ := id hF
    refine ⟨_, (pss_one (ps_ret (pe_callTy cu_list rfl T.z_list PyProof.Rows.boot_list (pa_cons (eu_fldK (K := K) rfl (pu 0)) pa_nil)))), ?_⟩
    simp_arith [tSeq, h1, h2, T.cl, T.n_high, T.n_inside, T.n_rows, T.n_sides, T.n_gone, T.n_lockfuls_drawn, T.n_lockfuls_out, fl_high, fl_drawn, fl_out, fn_summit, fn_is_chamber, fn_can_give, fn_can_take, fn_give, fn_take, fn_let, fn_levels, fn_drawn, fn_out, fn_boats, fn_waiting, fn_through, fn_side, fn_place, fn_come, fn_sail, fn_is_level, fn_leave, fn_enter, fl_putD, fl_putO, fl_len]
    exact k
end
theorem in_intV (b : Int) : ∀ l : List Int, inV (.int b) (intV l) = decide (b ∈ l)
  | [] => rfl
  | x :: r => by
    have ih := in_intV b r
    unfold inV intV at ih ⊢
    rw [List.map_cons, List.any_cons, ih]
    by_cases e : x = b
    · subst e; simp [eqV]
    · have e' : ¬ b = x := fun z => e z.symm
      simp [eqV, e, e']
theorem in_insV (b : Int) : ∀ l : List (Option Int), inV (.int b) (insV l) = decide (some b ∈ l)
  | [] => rfl
  | none :: r => by
    have ih := in_insV b r
    unfold inV insV at ih ⊢
    rw [List.map_cons, List.any_cons, ih]
    simp [eqV]
  | some x :: r => by
    have ih := in_insV b r
    unfold inV insV at ih ⊢
    rw [List.map_cons, List.any_cons, ih]
    by_cases e : x = b
    · subst e; simp [eqV]
    · have e' : ¬ b = x := fun z => e z.symm
      simp [eqV, e, e']
theorem flat_intV (l : List Int) : (intV l).all flatV = true := by unfold intV; simp [List.all_eq_true, flatV]
theorem flat_insV (l : List (Option Int)) : (insV l).all flatV = true := by
  unfold insV
  rw [List.all_eq_true]
  intro v hv
  obtain ⟨x, _, rfl⟩ := List.mem_map.mp hv
  cases x <;> rfl
theorem find_insV (b : Int) : ∀ {l : List (Option Int)}, some b ∈ l → findV (.int b) (insV l) = some (l.idxOf (some b))
  | [], h => by cases h
  | none :: r, h => by
    have h' : some b ∈ r := by simpa using h
    have ih := find_insV b h'
    unfold insV at ih ⊢
    rw [List.map_cons]
    unfold findV
    rw [if_neg (by simp [eqV]), ih]
    simp [List.idxOf_cons]
  | some x :: r, h => by
    by_cases e : x = b
    · subst e
      unfold insV
      rw [List.map_cons]
      unfold findV
      rw [if_pos (by simp [eqV])]
      simp [List.idxOf_cons]
    · have e' : ¬ b = x := fun z => e z.symm
      have h' : some b ∈ r := by simpa [e, e'] using h
      have ih := find_insV b h'
      unfold insV at ih ⊢
      rw [List.map_cons]
      unfold findV
      rw [if_neg (by simp [eqV, e]), ih]
      have : (some x == some b) = false := by simp [e]
      simp [List.idxOf_cons, this]
theorem len_intV (l : List Int) : (intV l).length = l.length := by unfold intV; simp
theorem len_insV (l : List (Option Int)) : (insV l).length = l.length := by unfold insV; simp
theorem len_sidV (l : List Bool) : (sidV l).length = l.length := by unfold sidV; simp
theorem at_sidV {l : List Bool} {i : Int} (h0 : 0 ≤ i) (h1 : i < l.length) : atI (sidV l) i = some (sid (l.getD i.toNat false)) := by
  unfold atI sidV
  rw [List.length_map, ixN_nat h0 h1]
  have : i.toNat < l.length := by omega
  simp [List.getD, this]
def insOne (x : Option Int) : V := match x with | none => .non | some b => .int b
theorem at_insV {l : List (Option Int)} {i : Int} (h0 : 0 ≤ i) (h1 : i < l.length) : atI (insV l) i = some (insOne (l.getD i.toNat none)) := by
  unfold atI insV
  rw [List.length_map, ixN_nat h0 h1]
  have : i.toNat < l.length := by omega
  simp [List.getD, this]
  rfl
theorem ins_non (x : Option Int) : decide (insOne x = .non) = decide (x = none) := by cases x <;> simp [insOne]
theorem set_insV (l : List (Option Int)) (j : Nat) (b : Option Int) : (insV l).set j (insOne b) = insV (l.set j b) := by unfold insV; rw [List.map_set]; rfl
theorem set_insN (l : List (Option Int)) (j : Nat) : (insV l).set j .non = insV (l.set j none) := set_insV l j none
theorem set_insI (l : List (Option Int)) (j : Nat) (b : Int) : (insV l).set j (.int b) = insV (l.set j (some b)) := set_insV l j (some b)
theorem row_up (x y : Addr) : valV [(Sum.inr (Str.ofString "up"), V.ref x), (Sum.inr (Str.ofString "down"), V.ref y)] ((Sum.inr (Str.ofString "up")) : Key) = some (.ref x) := rfl
theorem row_dn (x y : Addr) : valV [(Sum.inr (Str.ofString "up"), V.ref x), (Sum.inr (Str.ofString "down"), V.ref y)] ((Sum.inr (Str.ofString "down")) : Key) = some (.ref y) := rfl
def FA.w (a : FA) (b : Bool) : Addr := if b then a.d else a.u
theorem row_at (a : FA) (b : Bool) : valV [(Sum.inr (Str.ofString "up"), V.ref a.u), (Sum.inr (Str.ofString "down"), V.ref a.d)] ((Sum.inr (if b then Str.ofString "down" else Str.ofString "up")) : Key) = some (.ref (a.w b)) := by cases b <;> rfl
theorem sid_eq (b : Bool) : sid b = .str (if b then Str.ofString "down" else Str.ofString "up") := by unfold sid; cases b <;> rfl
theorem sid_up (b : Bool) : decide (V.str (if b then Str.ofString "down" else Str.ofString "up") = V.str (Str.ofString "up")) = !b := by cases b <;> decide
theorem FlAt.rw {t : Adr} {H : Hp} {a : FA} {f : Fl} (F : FlAt t H a f) (b : Bool) : H (a.w b) = some (.lst (intV (f.row b))) := by
  cases b
  · exact F.up
  · exact F.dn
theorem FlAt.setIns {t : Adr} {H : Hp} {a : FA} {f : Fl} (F : FlAt t H a f) (h : List (Option Int)) : FlAt t (upd H a.i (.lst (insV h))) a { f with inside := h } := by
  obtain ⟨⟨_, n1, _⟩, ⟨n2, _⟩, ⟨n3, n4, n5, n6, n7⟩, _⟩ := F.ne
  obtain ⟨⟨dx, h1⟩, h2, h3, h4, h5, h6, h7, h8, h9⟩ := F
  exact ⟨⟨dx, by rw [upd_ne n1]; exact h1⟩, by rw [upd_ne n2]; exact h2, upd_same, by rw [upd_ne n3.symm]; exact h4, by rw [upd_ne n4.symm]; exact h5, by rw [upd_ne n5.symm]; exact h6, by rw [upd_ne n6.symm]; exact h7, by rw [upd_ne n7.symm]; exact h8, h9⟩
theorem FlAt.setGone {t : Adr} {H : Hp} {a : FA} {f : Fl} (F : FlAt t H a f) (h : List Int) : FlAt t (upd H a.g (.lst (intV h))) a { f with gone := h } := by
  obtain ⟨⟨_, _, _, _, _, _, n1⟩, ⟨_, _, _, _, _, n2⟩, ⟨_, _, _, _, n3⟩, ⟨_, _, _, n4⟩, ⟨_, _, n5⟩, ⟨_, n6⟩, n7⟩ := F.ne
  obtain ⟨⟨dx, h1⟩, h2, h3, h4, h5, h6, h7, h8, h9⟩ := F
  exact ⟨⟨dx, by rw [upd_ne n1]; exact h1⟩, by rw [upd_ne n2]; exact h2, by rw [upd_ne n3]; exact h3, by rw [upd_ne n4]; exact h4, by rw [upd_ne n5]; exact h5, by rw [upd_ne n6]; exact h6, by rw [upd_ne n7]; exact h7, upd_same, h9⟩
theorem FlAt.setSides {t : Adr} {H : Hp} {a : FA} {f : Fl} (F : FlAt t H a f) (h : List Bool) : FlAt t (upd H a.s (.lst (sidV h))) a { f with sides := h } := by
  obtain ⟨⟨_, _, _, _, _, n1, _⟩, ⟨_, _, _, _, n2, _⟩, ⟨_, _, _, n3, _⟩, ⟨_, _, n4, _⟩, ⟨_, n5, _⟩, ⟨n6, _⟩, n7⟩ := F.ne
  obtain ⟨⟨dx, h1⟩, h2, h3, h4, h5, h6, h7, h8, h9⟩ := F
  exact ⟨⟨dx, by rw [upd_ne n1]; exact h1⟩, by rw [upd_ne n2]; exact h2, by rw [upd_ne n3]; exact h3, by rw [upd_ne n4]; exact h4, by rw [upd_ne n5]; exact h5, by rw [upd_ne n6]; exact h6, upd_same, by rw [upd_ne n7.symm]; exact h8, h9⟩
theorem FlAt.setUp {t : Adr} {H : Hp} {a : FA} {f : Fl} (F : FlAt t H a f) (h : List Int) : FlAt t (upd H a.u (.lst (intV h))) a { f with up := h } := by
  obtain ⟨⟨_, _, _, n1, _, _, _⟩, ⟨_, _, n2, _, _, _⟩, ⟨_, n3, _, _, _⟩, ⟨n4, _, _, _⟩, ⟨n5, n6, n7⟩, _⟩ := F.ne
  obtain ⟨⟨dx, h1⟩, h2, h3, h4, h5, h6, h7, h8, h9⟩ := F
  exact ⟨⟨dx, by rw [upd_ne n1]; exact h1⟩, by rw [upd_ne n2]; exact h2, by rw [upd_ne n3]; exact h3, by rw [upd_ne n4]; exact h4, upd_same, by rw [upd_ne n5.symm]; exact h6, by rw [upd_ne n6.symm]; exact h7, by rw [upd_ne n7.symm]; exact h8, h9⟩
theorem FlAt.setDn {t : Adr} {H : Hp} {a : FA} {f : Fl} (F : FlAt t H a f) (h : List Int) : FlAt t (upd H a.d (.lst (intV h))) a { f with down := h } := by
  obtain ⟨⟨_, _, _, _, n1, _, _⟩, ⟨_, _, _, n2, _, _⟩, ⟨_, _, n3, _, _⟩, ⟨_, n4, _, _⟩, ⟨n5, _, _⟩, ⟨n6, n7⟩, _⟩ := F.ne
  obtain ⟨⟨dx, h1⟩, h2, h3, h4, h5, h6, h7, h8, h9⟩ := F
  exact ⟨⟨dx, by rw [upd_ne n1]; exact h1⟩, by rw [upd_ne n2]; exact h2, by rw [upd_ne n3]; exact h3, by rw [upd_ne n4]; exact h4, by rw [upd_ne n5]; exact h5, upd_same, by rw [upd_ne n6.symm]; exact h7, by rw [upd_ne n7.symm]; exact h8, h9⟩
def setRow (f : Fl) (b : Bool) (h : List Int) : Fl := if b then { f with down := h } else { f with up := h }
theorem FlAt.setRow {t : Adr} {H : Hp} {a : FA} {f : Fl} (F : FlAt t H a f) (b : Bool) (h : List Int) : FlAt t (upd H (a.w b) (.lst (intV h))) a (setRow f b h) := by
  cases b
  · exact F.setUp h
  · exact F.setDn h
theorem mw (a : FA) (b : Bool) : a.w b ∈ a.foot := by cases b <;> simp [FA.foot, FA.w]
theorem mi (a : FA) : a.i ∈ a.foot := by simp [FA.foot]
theorem mg' (a : FA) : a.g ∈ a.foot := by simp [FA.foot]
theorem ms (a : FA) : a.s ∈ a.foot := by simp [FA.foot]
section
variable {P : Program} {w : World} {K : PySem.W.Frag} {mg : Str → Option Value} {base : Heap} {t : Adr}
inductive sp_side (t : Adr) (vs : List V) (H : Hp) (Q : VK) (E : XK) : Prop
  | mk (a : FA) (f : Fl) (b : Int) (z0 : vs = [.ref a.p, .int b]) (z1 : FlAt t H a f) (z2 : (if b < 0 ∨ (f.sides.length : Int) ≤ b then E (.ref t.c_NoBoat) none H else Q (sid (f.side b)) H)) : sp_side t vs H Q E
theorem sc_side : FnScope ["self", "boat"] ["self", "boat"] (defScope s_side) := ⟨rfl, rfl, rfl, by decide +kernel, rfl, by decide +kernel, by decide +kernel⟩
set_option maxHeartbeats 800000 in
theorem ok_side (T : Txt w K mg t) : FnOk P w K mg base (CXe P w) 1 t.f_side t.d_side ["self", "boat"] (sp_side t) := by
  refine okX T.F_side sc_side (fun vs H Q E h => ?_) (fun cdv A outer s H vs Q E hr h => ?_)
  · obtain ⟨a, f, b, rfl, _⟩ := h; rfl
  · obtain ⟨a, f, b, rfl, hF, k⟩ := h
    obtain ⟨⟨dx, h1⟩, h2, h3, h4, h5, h6, h7, h8, h9⟩ := id hF
    refine ⟨_, (pss_cons (ps_if (PW.pt (pw_or (tu_cmp ou_lt (pu 1) pe_int (nomark _)) (pw_or1 (tu_cmp ou_ge (pu 1) (pe_callB cu_len rfl T.z_len PySem.boot_len (pa_cons (eu_fldK (K := K) rfl (pu 0)) pa_nil)) (nomark _))))) (pss_one (ps_raise raiseB rfl T.x_NoBoat PySem.F.excBase_ValueError rfl T.g_NoBoat (pa_cons pe_str pa_nil))) pss_nil)
 (pss_one (ps_ret (eu_ix xu_seq (eu_fldK (K := K) rfl (pu 0)) (pu 1))))), ?_⟩
    simp only [tSeq]
    simp_arith [h1, h2, T.cl, T.n_high, T.n_inside, T.n_rows, T.n_sides, T.n_gone, T.n_lockfuls_drawn, T.n_lockfuls_out, fl_high, fl_drawn, fl_out, fn_summit, fn_is_chamber, fn_can_give, fn_can_take, fn_give, fn_take, fn_let, fn_levels, fn_drawn, fn_out, fn_boats, fn_waiting, fn_through, fn_side, fn_place, fn_come, fn_sail, fn_is_level, fn_leave, fn_enter, fl_putD, fl_putO, fl_len, h7, fl_sides, len_sidV, tRaise]
    by_cases c0 : b < 0
    · rw [if_pos (.inl c0)] at k
      simp only [c0, decide_true, if_true]
      exact ⟨by decide, k⟩
    · by_cases c1 : (f.sides.length : Int) ≤ b
      · rw [if_pos (.inr c1)] at k
        simp only [c0, c1, decide_true, decide_false, if_true, Bool.false_eq_true, if_false]
        exact ⟨by decide, k⟩
      · rw [if_neg (by omega)] at k
        simp only [c0, c1, decide_false, Bool.false_eq_true, if_false]
        rw [at_sidV (by omega) (by omega)]
        simp only [give_p, true_and]
        exact k
inductive sp_plc (t : Adr) (vs : List V) (H : Hp) (Q : VK) (E : XK) : Prop
  | mk (a : FA) (f : Fl) (b : Int) (z0 : vs = [.ref a.p, .int b]) (z1 : FlAt t H a f) (z2 : f.inside.length ≤ 1000) (z3 : (match f.place? b with | none => E (.ref t.c_NoBoat) none H | some p => Q (.int p) H)) : sp_plc t vs H Q E
theorem sc_place : FnScope ["self", "boat"] ["self", "boat"] (defScope s_place) := ⟨rfl, rfl, rfl, by decide +kernel, rfl, by decide +kernel, by decide +kernel⟩
set_option maxHeartbeats 800000 in
theorem ok_place (T : Txt w K mg t) : FnOk P w K mg base (CXe P w) 2 t.f_place t.d_place ["self", "boat"] (sp_plc t) := by
  have G_summit := ok_summit (P := P) (w := w) (base := base) T
  refine okX T.F_place sc_place (fun vs H Q E h => ?_) (fun cdv A outer s H vs Q E hr h => ?_)
  · obtain ⟨a, f, b, rfl, _⟩ := h; rfl
  · obtain ⟨a, f, b, rfl, hF, hz, k⟩ := h
    have hu1 := hu_of hr
    obtain ⟨⟨dx, h1⟩, h2, h3, h4, h5, h6, h7, h8, h9⟩ := id hF
    refine ⟨_, (pss_cons (ps_if (tu_cmp ou_in (pu 1) (eu_dget hu1 (eu_fldK (K := K) rfl (pu 0)) pe_str) rfl) (pss_one (ps_ret pe_int)) pss_nil)
 (pss_cons (ps_if (tu_cmp ou_in (pu 1) (eu_dget hu1 (eu_fldK (K := K) rfl (pu 0)) pe_str) rfl) (pss_one (ps_ret (eu_meth0 (pu 0) T.cl T.m_summit G_summit (hr.mono (by decide)) T.b_summit passB))) pss_nil)
 (pss_cons (ps_if (tu_cmp ou_in (pu 1) (eu_fldK (K := K) rfl (pu 0)) rfl) (pss_one (ps_ret (pe_op ou_add (eu_lm PySem.F.slot_list_index PySem.F.type_list_index mu_index (eu_fldK (K := K) rfl (pu 0)) (pa_cons (pu 1) pa_nil)) pe_int))) pss_nil)
 (pss_one (ps_raise raiseB rfl T.x_NoBoat PySem.F.excBase_ValueError rfl T.g_NoBoat (pa_cons pe_str pa_nil)))))), ?_⟩
    unfold Fl.place? at k
    refine seqG fun R hR => ?_
    refine ifG fun T1 U1 hT1 hU1 => ?_
    try simp_arith [h1, T.cl, T.n_rows, h4, h5, fl_rows, row_up, row_dn, flatV, flat_intV, in_intV]
    by_cases c0 : b ∈ f.up
    · rw [if_pos c0] at k
      rw [if_pos (decide_eq_true c0)]
      subst hT1
      try simp_arith [true_and]
      exact k
    · rw [if_neg c0] at k
      rw [if_neg (fun z => c0 (of_decide_eq_true z))]
      subst hU1
      try simp_arith [true_and]
      subst hR
      refine seqG fun R hR => ?_
      refine ifG fun T1 U1 hT1 hU1 => ?_
      try simp_arith [h1, T.cl, T.n_rows, h4, h6, fl_rows, row_up, row_dn, flatV, flat_intV, in_intV]
      by_cases c1 : b ∈ f.down
      · rw [if_pos c1] at k
        rw [if_pos (decide_eq_true c1)]
        subst hT1
        try simp_arith [h1, fn_summit, fn_is_chamber, fn_can_give, fn_can_take, fn_give, fn_take, fn_let, fn_levels, fn_drawn, fn_out, fn_boats, fn_waiting, fn_through, fn_side, fn_place, fn_come, fn_sail, fn_is_level, fn_leave, fn_enter]
        exact ⟨a, f, rfl, hF, k⟩
      · rw [if_neg c1] at k
        rw [if_neg (fun z => c1 (of_decide_eq_true z))]
        subst hU1
        try simp_arith [true_and]
        subst hR
        refine seqG fun R hR => ?_
        refine ifG fun T1 U1 hT1 hU1 => ?_
        try simp_arith [h1, T.cl, T.n_inside, h3, fl_inside, flatV, flat_insV, in_insV]
        by_cases c2 : some b ∈ f.inside
        · rw [if_pos c2] at k
          rw [if_pos (decide_eq_true c2)]
          subst hT1
          try simp_arith [h1, T.cl, T.n_inside, h3, fl_inside, flatV, flat_insV, find_insV b c2]
          exact k
        · rw [if_neg c2] at k
          rw [if_neg (fun z => c2 (of_decide_eq_true z))]
          subst hU1
          try simp_arith [true_and]
          subst hR
          try simp_arith [tRaise]
          exact ⟨by decide, k⟩
theorem sc_is_level : FnScope ["self", "gate"] ["self", "gate"] (defScope s_is_level) := ⟨rfl, rfl, rfl, by decide +kernel, rfl, by decide +kernel, by decide +kernel⟩
set_option maxHeartbeats 800000 in
theorem ok_is_level (T : Txt w K mg t) : FnOk P w K mg base (CXe P w) 4 t.f_is_level t.d_is_level ["self", "gate"] (sp_place t fun f p => .bl (Lf.level f.high p)) := by
  have G_can_give := ok_can_give (P := P) (w := w) (base := base) T
  have G_can_take := ok_can_take (P := P) (w := w) (base := base) T
  refine okX T.F_is_level sc_is_level (fun vs H Q E h => ?_) (fun cdv A outer s H vs Q E hr h => ?_)
  · obtain ⟨a, f, p, rfl, _⟩ := h; rfl
  · obtain ⟨a, f, p, rfl, hF, k⟩ := h
    obtain ⟨⟨dx, h1⟩, h2, _⟩ := id hF
    refine ⟨_, (pss_one (ps_ret (eu_and (eu_meth (pu 0) T.cl T.m_can_give G_can_give (hr.mono (by decide)) T.b_can_give passB (pa_cons (pu 1) pa_nil)) (pe_one (eu_meth (pu 0) T.cl T.m_can_take G_can_take (hr.mono (by decide)) T.b_can_take passB (pa_cons (pe_op ou_add (pu 1) pe_int) pa_nil)))))), ?_⟩
    simp_arith [tSeq, h1, h2, T.cl, T.n_high, T.n_inside, T.n_rows, T.n_sides, T.n_gone, T.n_lockfuls_drawn, T.n_lockfuls_out, fl_high, fl_drawn, fl_out, fn_summit, fn_is_chamber, fn_can_give, fn_can_take, fn_give, fn_take, fn_let, fn_levels, fn_drawn, fn_out, fn_boats, fn_waiting, fn_through, fn_side, fn_place, fn_come, fn_sail, fn_is_level, fn_leave, fn_enter, fl_putD, fl_putO, fl_len]
    refine ⟨a, f, p, rfl, hF, ?_⟩
    try dsimp only at k
    unfold Lf.level at k
    cases c : Lf.canGive f.high p with
    | true =>
      rw [c] at k
      simp_arith [tSeq, h1, h2, T.cl, T.n_high, T.n_inside, T.n_rows, T.n_sides, T.n_gone, T.n_lockfuls_drawn, T.n_lockfuls_out, fl_high, fl_drawn, fl_out, fn_summit, fn_is_chamber, fn_can_give, fn_can_take, fn_give, fn_take, fn_let, fn_levels, fn_drawn, fn_out, fn_boats, fn_waiting, fn_through, fn_side, fn_place, fn_come, fn_sail, fn_is_level, fn_leave, fn_enter, fl_putD, fl_putO, fl_len, c]
      refine ⟨a, f, p + 1, rfl, hF, ?_⟩
      simpa using k
    | false =>
      rw [c] at k
      simp_arith [tSeq, h1, h2, T.cl, T.n_high, T.n_inside, T.n_rows, T.n_sides, T.n_gone, T.n_lockfuls_drawn, T.n_lockfuls_out, fl_high, fl_drawn, fl_out, fn_summit, fn_is_chamber, fn_can_give, fn_can_take, fn_give, fn_take, fn_let, fn_levels, fn_drawn, fn_out, fn_boats, fn_waiting, fn_through, fn_side, fn_place, fn_come, fn_sail, fn_is_level, fn_leave, fn_enter, fl_putD, fl_putO, fl_len, c]
      simpa using k
inductive sp_lv (t : Adr) (vs : List V) (H : Hp) (Q : VK) (E_ : XK) : Prop
  | mk (a : FA) (f : Fl) (p : Int) (b : Bool) (z0 : vs = [.ref a.p, .int p, sid b]) (z1 : FlAt t H a f) (z2 : f.inside.length = f.high.length) (z3 : (isCh f.high.length p = false → f.row b ≠ [])) (z4 : ∀ H', FlAt t H' a (f.leave p b) → But a.foot H H' → Q .non H') : sp_lv t vs H Q E_
theorem sc_leave : FnScope ["self", "place", "side"] ["self", "place", "side"] (defScope s_leave) := ⟨rfl, rfl, rfl, by decide +kernel, rfl, by decide +kernel, by decide +kernel⟩
set_option maxHeartbeats 800000 in
theorem ok_leave (T : Txt w K mg t) : FnOk P w K mg base (CXe P w) 3 t.f_leave t.d_leave ["self", "place", "side"] (sp_lv t) := by
  have G_is_chamber := ok_is_chamber (P := P) (w := w) (base := base) T
  refine okX T.F_leave sc_leave (fun vs H Q E h => ?_) (fun cdv A outer s H vs Q E hr h => ?_)
  · obtain ⟨a, f, p, b, rfl, _⟩ := h; rfl
  · obtain ⟨a, f, p, b, rfl, hF, hz, hn, k⟩ := h
    have hu1 := hu_of hr
    obtain ⟨⟨dx, h1⟩, h2, h3, h4, h5, h6, h7, h8, h9⟩ := id hF
    have hw := hF.rw b
    refine ⟨_, (pss_one (ps_if (tu_val (eu_meth (pu 0) T.cl T.m_is_chamber G_is_chamber (hr.mono (by decide)) T.b_is_chamber passB (pa_cons (pu 1) pa_nil))) (pss_one (su_lput (eu_fldK (K := K) rfl (pu 0)) (pe_op ou_sub (pu 1) pe_int) pe_non)) (pss_one (ps_expr (eu_lm PySem.F.slot_list_pop PySem.F.type_list_pop mu_pop0 (eu_dget hu1 (eu_fldK (K := K) rfl (pu 0)) (pu 2)) (pa_cons pe_int pa_nil)))))), ?_⟩
    refine ifG fun T1 U1 hT1 hU1 => ?_
    try simp_arith [h1, fn_summit, fn_is_chamber, fn_can_give, fn_can_take, fn_give, fn_take, fn_let, fn_levels, fn_drawn, fn_out, fn_boats, fn_waiting, fn_through, fn_side, fn_place, fn_come, fn_sail, fn_is_level, fn_leave, fn_enter]
    refine ⟨a, f, p, rfl, hF, ?_⟩
    unfold Fl.leave at k
    cases c : isCh f.high.length p with
    | true =>
      have c' : 0 < p ∧ p < (f.high.length : Int) + 1 := by simpa [isCh] using c
      simp only [c, if_true] at k
      try simp_arith [c]
      subst hT1
      try simp_arith [h1, h3, T.cl, T.n_inside, fl_inside]
      rw [len_insV, ixN_nat (by omega) (by omega)]
      simp only [set_insN]
      exact k _ (hF.setIns _) (But.upd (mi a))
    | false =>
      simp only [c, Bool.false_eq_true, if_false] at k
      try simp_arith [c]
      subst hU1
      try simp_arith [h1, T.cl, T.n_rows, h4, fl_rows, row_at, sid_eq, hw]
      cases e : f.row b with
      | nil => exact absurd e (hn c)
      | cons x r =>
        rw [e] at hw
        simp only [intV, List.map_cons]
        refine k _ ?_ (But.upd (mw a b))
        have := hF.setRow b r
        cases b
        · have e' : f.up = x :: r := e
          simp only [Bool.false_eq_true, if_false, e', List.drop_succ_cons, List.drop_zero]; exact this
        · have e' : f.down = x :: r := e
          simp only [if_true, e', List.drop_succ_cons, List.drop_zero]; exact this
inductive sp_en (t : Adr) (vs : List V) (H : Hp) (Q : VK) (E_ : XK) : Prop
  | mk (a : FA) (f : Fl) (p b : Int) (z0 : vs = [.ref a.p, .int p, .int b]) (z1 : FlAt t H a f) (z2 : f.inside.length = f.high.length) (z3 : f.gone.length ≤ 1000) (z4 : ∀ H', FlAt t H' a (f.enter p b) → But a.foot H H' → Q .non H') : sp_en t vs H Q E_
theorem app_intV (l : List Int) (b : Int) : intV l ++ [.int b] = intV (l ++ [b]) := by unfold intV; simp
theorem app_sidV (l : List Bool) (b : Bool) : sidV l ++ [sid b] = sidV (l ++ [b]) := by unfold sidV; simp
theorem sc_enter : FnScope ["self", "place", "boat"] ["self", "place", "boat"] (defScope s_enter) := ⟨rfl, rfl, rfl, by decide +kernel, rfl, by decide +kernel, by decide +kernel⟩
set_option maxHeartbeats 800000 in
theorem ok_enter (T : Txt w K mg t) : FnOk P w K mg base (CXe P w) 3 t.f_enter t.d_enter ["self", "place", "boat"] (sp_en t) := by
  have G_is_chamber := ok_is_chamber (P := P) (w := w) (base := base) T
  refine okX T.F_enter sc_enter (fun vs H Q E h => ?_) (fun cdv A outer s H vs Q E hr h => ?_)
  · obtain ⟨a, f, p, b, rfl, _⟩ := h; rfl
  · obtain ⟨a, f, p, b, rfl, hF, hz, hg, k⟩ := h
    have hu1 := hu_of hr
    obtain ⟨⟨dx, h1⟩, h2, h3, h4, h5, h6, h7, h8, h9⟩ := id hF
    refine ⟨_, (pss_one (ps_if (tu_val (eu_meth (pu 0) T.cl T.m_is_chamber G_is_chamber (hr.mono (by decide)) T.b_is_chamber passB (pa_cons (pu 1) pa_nil))) (pss_one (su_lput (eu_fldK (K := K) rfl (pu 0)) (pe_op ou_sub (pu 1) pe_int) (pu 2))) (pss_one (ps_expr (eu_lm PySem.F.slot_list_append PySem.F.type_list_append mu_append (eu_fldK (K := K) rfl (pu 0)) (pa_cons (pu 2) pa_nil)))))), ?_⟩
    refine ifG fun T1 U1 hT1 hU1 => ?_
    try simp_arith [h1, fn_summit, fn_is_chamber, fn_can_give, fn_can_take, fn_give, fn_take, fn_let, fn_levels, fn_drawn, fn_out, fn_boats, fn_waiting, fn_through, fn_side, fn_place, fn_come, fn_sail, fn_is_level, fn_leave, fn_enter]
    refine ⟨a, f, p, rfl, hF, ?_⟩
    unfold Fl.enter at k
    cases c : isCh f.high.length p with
    | true =>
      have c' : 0 < p ∧ p < (f.high.length : Int) + 1 := by simpa [isCh] using c
      simp only [c, if_true] at k
      try simp_arith [c]
      subst hT1
      try simp_arith [h1, h3, T.cl, T.n_inside, fl_inside]
      rw [len_insV, ixN_nat (by omega) (by omega)]
      simp only [set_insI]
      exact k _ (hF.setIns _) (But.upd (mi a))
    | false =>
      simp only [c, Bool.false_eq_true, if_false] at k
      try simp_arith [c]
      subst hU1
      try simp_arith [h1, T.cl, T.n_gone, h8, fl_gone]
      refine ⟨by rw [len_intV]; exact Nat.lt_of_le_of_lt hg (by decide), ?_⟩
      rw [app_intV]
      exact k _ (hF.setGone _) (But.upd (mg' a))
inductive sp_come (t : Adr) (vs : List V) (H : Hp) (Q : VK) (E_ : XK) : Prop
  | mk (a : FA) (f : Fl) (b : Bool) (z0 : vs = [.ref a.p, sid b]) (z1 : FlAt t H a f) (z2 : f.sides.length ≤ 1000) (z3 : (f.row b).length ≤ 1000) (z4 : ∀ H', FlAt t H' a (f.come b) → But a.foot H H' → Q (.int f.sides.length) H') : sp_come t vs H Q E_
theorem sc_come : FnScope ["self", "side", "boat"] ["self", "side"] (defScope s_come) := ⟨rfl, rfl, rfl, by decide +kernel, rfl, by decide +kernel, by decide +kernel⟩
set_option maxHeartbeats 800000 in
theorem ok_come (T : Txt w K mg t) : FnOk P w K mg base (CXe P w) 1 t.f_come t.d_come ["self", "side"] (sp_come t) := by
  refine okX T.F_come sc_come (fun vs H Q E h => ?_) (fun cdv A outer s H vs Q E hr h => ?_)
  · obtain ⟨a, f, b, rfl, _⟩ := h; rfl
  · obtain ⟨a, f, b, rfl, hF, hz, hg, k⟩ := h
    have hu1 := hu_of hr
    obtain ⟨⟨dx, h1⟩, h2, h3, h4, h5, h6, h7, h8, h9⟩ := id hF
    refine ⟨_, (pss_cons (ps_set (i := 2) sc_come.nd rfl (Or.inl rfl) (pe_callB cu_len rfl T.z_len PySem.boot_len (pa_cons (eu_fldK (K := K) rfl (pu 0)) pa_nil)))
 (pss_cons (ps_expr (eu_lm PySem.F.slot_list_append PySem.F.type_list_append mu_append (eu_fldK (K := K) rfl (pu 0)) (pa_cons (pu 1) pa_nil)))
 (pss_cons (ps_expr (eu_lm PySem.F.slot_list_append PySem.F.type_list_append mu_append (eu_dget hu1 (eu_fldK (K := K) rfl (pu 0)) (pu 1)) (pa_cons (pu 2) pa_nil)))
 (pss_one (ps_ret (pu 2)))))), ?_⟩
    simp only [tSeq]
    simp_arith [h1, h2, T.cl, T.n_high, T.n_inside, T.n_rows, T.n_sides, T.n_gone, T.n_lockfuls_drawn, T.n_lockfuls_out, fl_high, fl_drawn, fl_out, fn_summit, fn_is_chamber, fn_can_give, fn_can_take, fn_give, fn_take, fn_let, fn_levels, fn_drawn, fn_out, fn_boats, fn_waiting, fn_through, fn_side, fn_place, fn_come, fn_sail, fn_is_level, fn_leave, fn_enter, fl_putD, fl_putO, fl_len, h7, fl_sides, len_sidV]
    simp only [tSeq]
    simp_arith [h1, h2, T.cl, T.n_high, T.n_inside, T.n_rows, T.n_sides, T.n_gone, T.n_lockfuls_drawn, T.n_lockfuls_out, fl_high, fl_drawn, fl_out, fn_summit, fn_is_chamber, fn_can_give, fn_can_take, fn_give, fn_take, fn_let, fn_levels, fn_drawn, fn_out, fn_boats, fn_waiting, fn_through, fn_side, fn_place, fn_come, fn_sail, fn_is_level, fn_leave, fn_enter, fl_putD, fl_putO, fl_len, h7, fl_sides, len_sidV]
    refine ⟨Nat.lt_of_le_of_lt hz (by decide), ?_⟩
    rw [app_sidV]
    have F2 := hF.setSides (f.sides ++ [b])
    have b2 : But a.foot H (upd H a.s (.lst (sidV (f.sides ++ [b])))) := But.upd (ms a)
    generalize upd H a.s (.lst (sidV (f.sides ++ [b]))) = H2 at *
    obtain ⟨⟨dx2, g1⟩, g2, g3, g4, g5, g6, g7, g8, g9⟩ := id F2
    have hw := F2.rw b
    simp only [tSeq]
    simp_arith [h1, h2, T.cl, T.n_high, T.n_inside, T.n_rows, T.n_sides, T.n_gone, T.n_lockfuls_drawn, T.n_lockfuls_out, fl_high, fl_drawn, fl_out, fn_summit, fn_is_chamber, fn_can_give, fn_can_take, fn_give, fn_take, fn_let, fn_levels, fn_drawn, fn_out, fn_boats, fn_waiting, fn_through, fn_side, fn_place, fn_come, fn_sail, fn_is_level, fn_leave, fn_enter, fl_putD, fl_putO, fl_len, g1, g4, hw, sid_eq, fl_rows, row_at, len_intV]
    refine ⟨Nat.lt_of_le_of_lt hg (by decide), ?_⟩
    rw [app_intV]
    refine k _ ?_ (b2.trans (But.upd (mw a b)))
    have F3 := F2.setRow b (Fl.row { f with sides := f.sides ++ [b] } b ++ [(f.sides.length : Int)])
    cases b
    · exact F3
    · exact F3
end
structure WF (f : Fl) : Prop where
  len : f.inside.length = f.high.length
  up : ∀ b ∈ f.up, (0 ≤ b ∧ b < (f.sides.length : Int)) ∧ f.side b = false
  dn : ∀ b ∈ f.down, (0 ≤ b ∧ b < (f.sides.length : Int)) ∧ f.side b = true
  ins : ∀ b, some b ∈ f.inside → 0 ≤ b ∧ b < (f.sides.length : Int)
  sz : f.high.length ≤ 1000
  gz : f.gone.length ≤ 1000
theorem min_if (i j : Int) : (if j < i then j else i) = min i j := by
  by_cases h : j < i
  · rw [if_pos h]; omega
  · rw [if_neg h]; omega
theorem WF.side {f : Fl} (W : WF f) {b here : Int} (h : f.place? b = some here) : (0 ≤ b ∧ b < (f.sides.length : Int)) ∧ (isCh f.high.length here = false → b ∈ f.row (f.side b)) ∧ 0 ≤ here ∧ here ≤ (f.high.length : Int) + 1 := by
  unfold Fl.place? at h
  split at h
  · rename_i c
    cases h
    obtain ⟨a, e⟩ := W.up b c
    exact ⟨a, fun _ => by rw [e]; exact c, by omega, by omega⟩
  · split at h
    · rename_i c
      cases h
      obtain ⟨a, e⟩ := W.dn b c
      exact ⟨a, fun _ => by rw [e]; exact c, by omega, by omega⟩
    · split at h
      · rename_i c
        cases h
        have hl : f.inside.idxOf (some b) < f.inside.length := List.idxOf_lt_length_iff.mpr c
        have := W.len
        refine ⟨W.ins b c, fun z => ?_, by omega, by omega⟩
        rw [isCh_true (by omega) (by omega)] at z
        cases z
      · cases h
theorem at_head (x : Int) (r : List Int) : atI (intV (x :: r)) 0 = some (.int x) := by unfold atI intV; rw [ixN_nat (by decide) (by simp)]; rfl
theorem join3 {c d A R : Prop} [Decidable c] (h1 : c → ¬ d → R → A) (h2 : c → d → A) (h3 : ¬ (c ∧ d) → R) : if c then A else R := by
  by_cases hc : c
  · rw [if_pos hc]
    by_cases hd : d
    · exact h2 hc hd
    · exact h1 hc hd (h3 fun z => hd z.2)
  · rw [if_neg hc]; exact h3 fun z => hc z.1
section
variable {P : Program} {w : World} {K : PySem.W.Frag} {mg : Str → Option Value} {base : Heap} {t : Adr}
inductive sp_sail (t : Adr) (vs : List V) (H : Hp) (Q : VK) (E : XK) : Prop
  | mk (a : FA) (f : Fl) (b : Int) (z0 : vs = [.ref a.p, .int b]) (z1 : FlAt t H a f) (z2 : WF f) (z3 : (match f.sailOut b with | .noBoat => E (.ref t.c_NoBoat) none H | .notFirst => E (.ref t.c_NotFirst) none H | .shut => E (.ref t.c_Shut) none H | .occupied => E (.ref t.c_Occupied) none H | .done => ∀ H' here, f.place? b = some here → FlAt t H' a (f.sail b here) → But a.foot H H' → Q (.int (stepOf (f.side b) here)) H')) : sp_sail t vs H Q E
theorem sc_sail : FnScope ["self", "boat", "here", "side", "there"] ["self", "boat"] (defScope s_sail) := ⟨rfl, rfl, rfl, by decide +kernel, rfl, by decide +kernel, by decide +kernel⟩
set_option maxHeartbeats 800000 in
theorem ok_sail (T : Txt w K mg t) : FnOk P w K mg base (CXe P w) 5 t.f_sail t.d_sail ["self", "boat"] (sp_sail t) := by
  have G_place := ok_place (P := P) (w := w) (base := base) T
  have G_side := ok_side (P := P) (w := w) (base := base) T
  have G_is_level := ok_is_level (P := P) (w := w) (base := base) T
  have G_is_chamber := ok_is_chamber (P := P) (w := w) (base := base) T
  have G_leave := ok_leave (P := P) (w := w) (base := base) T
  have G_enter := ok_enter (P := P) (w := w) (base := base) T
  refine okX T.F_sail sc_sail (fun vs H Q E h => ?_) (fun cdv A outer s H vs Q E hr h => ?_)
  · obtain ⟨a, f, b, rfl, _⟩ := h; rfl
  · obtain ⟨a, f, b, rfl, hF, W, k⟩ := h
    have hu1 := hu_of hr
    obtain ⟨⟨dx, h1⟩, h2, h3, h4, h5, h6, h7, h8, h9⟩ := id hF
    have hw := hF.rw (f.side b)
    refine ⟨_, (pss_cons (ps_set (i := 2) sc_sail.nd rfl (Or.inl rfl) (eu_meth (pu 0) T.cl T.m_place G_place (hr.mono (by decide)) T.b_place passB (pa_cons (pu 1) pa_nil)))
 (pss_cons (ps_set (i := 3) sc_sail.nd rfl (Or.inl rfl) (eu_meth (pu 0) T.cl T.m_side G_side (hr.mono (by decide)) T.b_side passB (pa_cons (pu 1) pa_nil)))
 (pss_cons (ps_if (PW.pt (pw_and (tu_cmp ou_in (pu 1) (eu_dget hu1 (eu_fldK (K := K) rfl (pu 0)) (pu 3)) rfl) (pw_and1 (tu_cmp (ou_ne hr.units) (eu_ix xu_seq (eu_dget hu1 (eu_fldK (K := K) rfl (pu 0)) (pu 3)) pe_int) (pu 1) (nomark _))))) (pss_one (ps_raise raiseB rfl T.x_NotFirst PySem.F.excBase_ValueError rfl T.g_NotFirst (pa_cons pe_str pa_nil))) pss_nil)
 (pss_cons (ps_set (i := 4) sc_sail.nd rfl (Or.inl rfl) (pe_ifExp (tu_cmp (ou_eq hr.units) (pu 3) pe_str (nomark _)) (pe_op ou_add (pu 2) pe_int) (pe_op ou_sub (pu 2) pe_int)))
 (pss_cons (ps_if (pt_not (tu_val (eu_meth (pu 0) T.cl T.m_is_level G_is_level (hr.mono (by decide)) T.b_is_level passB (pa_cons (pe_callB (cu_min rfl) rfl T.z_min PyProof.Rows.boot_min (pa_cons (pu 2) (pa_cons (pu 4) pa_nil))) pa_nil)))) (pss_one (ps_raise raiseB rfl T.x_Shut PySem.F.excBase_ValueError rfl T.g_Shut (pa_cons pe_str pa_nil))) pss_nil)
 (pss_cons (ps_if (PW.pt (pw_and (tu_val (eu_meth (pu 0) T.cl T.m_is_chamber G_is_chamber (hr.mono (by decide)) T.b_is_chamber passB (pa_cons (pu 4) pa_nil))) (pw_and1 (tu_cmp ou_notN (eu_ix xu_seq (eu_fldK (K := K) rfl (pu 0)) (pe_op ou_sub (pu 4) pe_int)) pe_non (nomark _))))) (pss_one (ps_raise raiseB rfl T.x_Occupied PySem.F.excBase_ValueError rfl T.g_Occupied (pa_cons pe_str pa_nil))) pss_nil)
 (pss_cons (ps_expr (eu_meth (pu 0) T.cl T.m_leave G_leave (hr.mono (by decide)) T.b_leave passB (pa_cons (pu 2) (pa_cons (pu 3) pa_nil))))
 (pss_cons (ps_expr (eu_meth (pu 0) T.cl T.m_enter G_enter (hr.mono (by decide)) T.b_enter passB (pa_cons (pu 4) (pa_cons (pu 1) pa_nil))))
 (pss_one (ps_ret (pu 4))))))))))), ?_⟩
    refine seqG fun R hR => ?_
    simp_arith [h1, h2, T.cl, T.n_high, T.n_inside, T.n_rows, T.n_sides, T.n_gone, T.n_lockfuls_drawn, T.n_lockfuls_out, fl_high, fl_drawn, fl_out, fn_summit, fn_is_chamber, fn_can_give, fn_can_take, fn_give, fn_take, fn_let, fn_levels, fn_drawn, fn_out, fn_boats, fn_waiting, fn_through, fn_side, fn_place, fn_come, fn_sail, fn_is_level, fn_leave, fn_enter, fl_putD, fl_putO, fl_len]
    refine ⟨a, f, b, rfl, hF, by rw [W.len]; exact W.sz, ?_⟩
    unfold Fl.sailOut at k
    cases hp : f.place? b with
    | none => rw [hp] at k; exact k
    | some here =>
      rw [hp] at k
      try dsimp only at k
      obtain ⟨⟨b0, b1⟩, hrow, r0, r1⟩ := W.side hp
      subst hR
      refine seqG fun R hR => ?_
      simp_arith [h1, h2, T.cl, T.n_high, T.n_inside, T.n_rows, T.n_sides, T.n_gone, T.n_lockfuls_drawn, T.n_lockfuls_out, fl_high, fl_drawn, fl_out, fn_summit, fn_is_chamber, fn_can_give, fn_can_take, fn_give, fn_take, fn_let, fn_levels, fn_drawn, fn_out, fn_boats, fn_waiting, fn_through, fn_side, fn_place, fn_come, fn_sail, fn_is_level, fn_leave, fn_enter, fl_putD, fl_putO, fl_len]
      refine ⟨a, f, b, rfl, hF, ?_⟩
      rw [if_neg (by omega)]
      subst hR
      refine seqG fun R hR => ?_
      simp_arith [h1, h2, T.cl, T.n_high, T.n_inside, T.n_rows, T.n_sides, T.n_gone, T.n_lockfuls_drawn, T.n_lockfuls_out, fl_high, fl_drawn, fl_out, fn_summit, fn_is_chamber, fn_can_give, fn_can_take, fn_give, fn_take, fn_let, fn_levels, fn_drawn, fn_out, fn_boats, fn_waiting, fn_through, fn_side, fn_place, fn_come, fn_sail, fn_is_level, fn_leave, fn_enter, fl_putD, fl_putO, fl_len, h4, hw, sid_eq, fl_rows, row_at, flatV, flat_intV, in_intV, tRaise]
      have hd : b ∈ f.row (f.side b) → ∃ x r, f.row (f.side b) = x :: r := fun z => by
        cases e : f.row (f.side b) with
        | nil => rw [e] at z; cases z
        | cons x r => exact ⟨x, r, rfl⟩
      refine join3 (d := (f.row (f.side b)).head? ≠ some b) (fun c d hR => ?_) (fun c d => ?_) (fun c => ?_)
      · obtain ⟨x, r, e⟩ := hd (by simpa using c)
        rw [e, at_head]
        rw [e] at d
        simp_arith [h1, h2, T.cl, T.n_high, T.n_inside, T.n_rows, T.n_sides, T.n_gone, T.n_lockfuls_drawn, T.n_lockfuls_out, fl_high, fl_drawn, fl_out, fn_summit, fn_is_chamber, fn_can_give, fn_can_take, fn_give, fn_take, fn_let, fn_levels, fn_drawn, fn_out, fn_boats, fn_waiting, fn_through, fn_side, fn_place, fn_come, fn_sail, fn_is_level, fn_leave, fn_enter, fl_putD, fl_putO, fl_len]
        have : x = b := by simpa using d
        rw [if_neg (by simp [this])]
        exact hR
      · obtain ⟨x, r, e⟩ := hd (by simpa using c)
        rw [if_pos ⟨by simpa using c, d⟩] at k
        rw [e, at_head]
        rw [e] at d
        simp_arith [h1, h2, T.cl, T.n_high, T.n_inside, T.n_rows, T.n_sides, T.n_gone, T.n_lockfuls_drawn, T.n_lockfuls_out, fl_high, fl_drawn, fl_out, fn_summit, fn_is_chamber, fn_can_give, fn_can_take, fn_give, fn_take, fn_let, fn_levels, fn_drawn, fn_out, fn_boats, fn_waiting, fn_through, fn_side, fn_place, fn_come, fn_sail, fn_is_level, fn_leave, fn_enter, fl_putD, fl_putO, fl_len]
        have : ¬ x = b := by simpa using d
        rw [if_pos (by simp [this])]
        exact ⟨by decide, k⟩
      rw [if_neg (by simpa using c)] at k
      subst hR
      refine seqG fun R hR => ?_
      simp_arith [h1, h2, T.cl, T.n_high, T.n_inside, T.n_rows, T.n_sides, T.n_gone, T.n_lockfuls_drawn, T.n_lockfuls_out, fl_high, fl_drawn, fl_out, fn_summit, fn_is_chamber, fn_can_give, fn_can_take, fn_give, fn_take, fn_let, fn_levels, fn_drawn, fn_out, fn_boats, fn_waiting, fn_through, fn_side, fn_place, fn_come, fn_sail, fn_is_level, fn_leave, fn_enter, fl_putD, fl_putO, fl_len]
      rw [sid_up]
      have e2 : stepOf (f.side b) here = (if f.side b = true then here - 1 else here + 1) := rfl
      generalize hth : stepOf (f.side b) here = th at *
      have e3 : (f.side b = false → here + 1 = th) ∧ (f.side b = true → here - 1 = th) := by
        constructor <;> intro z <;> rw [z] at e2 <;> simpa using e2.symm
      have fin : R { nx := fun x H' => Q V.non H', rt := Q } [some (V.ref a.p), some (V.int b), some (V.int here), some (sid (f.side b)), some (V.int th)] H := by
        subst hR
        refine seqG fun R hR => ?_
        simp_arith [h1, h2, T.cl, T.n_high, T.n_inside, T.n_rows, T.n_sides, T.n_gone, T.n_lockfuls_drawn, T.n_lockfuls_out, fl_high, fl_drawn, fl_out, fn_summit, fn_is_chamber, fn_can_give, fn_can_take, fn_give, fn_take, fn_let, fn_levels, fn_drawn, fn_out, fn_boats, fn_waiting, fn_through, fn_side, fn_place, fn_come, fn_sail, fn_is_level, fn_leave, fn_enter, fl_putD, fl_putO, fl_len, tRaise, min_if]
        refine ⟨a, f, _, rfl, hF, ?_⟩
        cases c1 : level f.high (min here th) with
        | false =>
          rw [c1] at k
          simp_arith [h1, h2, T.cl, T.n_high, T.n_inside, T.n_rows, T.n_sides, T.n_gone, T.n_lockfuls_drawn, T.n_lockfuls_out, fl_high, fl_drawn, fl_out, fn_summit, fn_is_chamber, fn_can_give, fn_can_take, fn_give, fn_take, fn_let, fn_levels, fn_drawn, fn_out, fn_boats, fn_waiting, fn_through, fn_side, fn_place, fn_come, fn_sail, fn_is_level, fn_leave, fn_enter, fl_putD, fl_putO, fl_len, Bool.not_false, c1]
          exact ⟨by decide, k⟩
        | true =>
          rw [c1] at k
          simp_arith [h1, h2, T.cl, T.n_high, T.n_inside, T.n_rows, T.n_sides, T.n_gone, T.n_lockfuls_drawn, T.n_lockfuls_out, fl_high, fl_drawn, fl_out, fn_summit, fn_is_chamber, fn_can_give, fn_can_take, fn_give, fn_take, fn_let, fn_levels, fn_drawn, fn_out, fn_boats, fn_waiting, fn_through, fn_side, fn_place, fn_come, fn_sail, fn_is_level, fn_leave, fn_enter, fl_putD, fl_putO, fl_len, Bool.not_true, c1]
          subst hR
          refine seqG fun R hR => ?_
          simp_arith [h1, h2, T.cl, T.n_high, T.n_inside, T.n_rows, T.n_sides, T.n_gone, T.n_lockfuls_drawn, T.n_lockfuls_out, fl_high, fl_drawn, fl_out, fn_summit, fn_is_chamber, fn_can_give, fn_can_take, fn_give, fn_take, fn_let, fn_levels, fn_drawn, fn_out, fn_boats, fn_waiting, fn_through, fn_side, fn_place, fn_come, fn_sail, fn_is_level, fn_leave, fn_enter, fl_putD, fl_putO, fl_len, tRaise]
          refine ⟨a, f, _, rfl, hF, ?_⟩
          have last : ¬ (isCh f.high.length th = true ∧ f.inside.getD (th - 1).toNat none ≠ none) → R { nx := fun x H' => Q V.non H', rt := Q } [some (V.ref a.p), some (V.int b), some (V.int here), some (sid (f.side b)), some (V.int th)] H := fun c2 => by
            rw [if_neg (by simp), if_neg c2] at k
            subst hR
            refine seqG fun R hR => ?_
            simp_arith [h1, h2, T.cl, T.n_high, T.n_inside, T.n_rows, T.n_sides, T.n_gone, T.n_lockfuls_drawn, T.n_lockfuls_out, fl_high, fl_drawn, fl_out, fn_summit, fn_is_chamber, fn_can_give, fn_can_take, fn_give, fn_take, fn_let, fn_levels, fn_drawn, fn_out, fn_boats, fn_waiting, fn_through, fn_side, fn_place, fn_come, fn_sail, fn_is_level, fn_leave, fn_enter, fl_putD, fl_putO, fl_len]
            refine ⟨a, f, here, f.side b, rfl, hF, W.len, fun z e => ?_, fun H1 F1 b1 => ?_⟩
            · have := hrow z; rw [e] at this; cases this
            have L1 : (f.leave here (f.side b)).inside.length = (f.leave here (f.side b)).high.length ∧ (f.leave here (f.side b)).gone = f.gone := by
              unfold Fl.leave
              split
              · simp [W.len]
              · split <;> simp [W.len]
            obtain ⟨⟨dx1, g1⟩, _⟩ := id F1
            subst hR
            refine seqG fun R hR => ?_
            simp_arith [h1, h2, T.cl, T.n_high, T.n_inside, T.n_rows, T.n_sides, T.n_gone, T.n_lockfuls_drawn, T.n_lockfuls_out, fl_high, fl_drawn, fl_out, fn_summit, fn_is_chamber, fn_can_give, fn_can_take, fn_give, fn_take, fn_let, fn_levels, fn_drawn, fn_out, fn_boats, fn_waiting, fn_through, fn_side, fn_place, fn_come, fn_sail, fn_is_level, fn_leave, fn_enter, fl_putD, fl_putO, fl_len, g1]
            refine ⟨a, _, th, b, rfl, F1, L1.1, by rw [L1.2]; exact W.gz, fun H2 F2 b2 => ?_⟩
            subst hR
            show Q (V.int th) H2
            rw [← hth]
            refine k H2 here rfl ?_ (b1.trans b2)
            unfold Fl.sail
            rw [hth]
            exact F2
          cases c2 : isCh f.high.length th with
          | false =>
            simp_arith [h1, h2, T.cl, T.n_high, T.n_inside, T.n_rows, T.n_sides, T.n_gone, T.n_lockfuls_drawn, T.n_lockfuls_out, fl_high, fl_drawn, fl_out, fn_summit, fn_is_chamber, fn_can_give, fn_can_take, fn_give, fn_take, fn_let, fn_levels, fn_drawn, fn_out, fn_boats, fn_waiting, fn_through, fn_side, fn_place, fn_come, fn_sail, fn_is_level, fn_leave, fn_enter, fl_putD, fl_putO, fl_len, c2]
            exact last (by simp [c2])
          | true =>
            have c' : 0 < th ∧ th < (f.high.length : Int) + 1 := by simpa [isCh] using c2
            have hl := W.len
            simp_arith [h1, h2, T.cl, T.n_high, T.n_inside, T.n_rows, T.n_sides, T.n_gone, T.n_lockfuls_drawn, T.n_lockfuls_out, fl_high, fl_drawn, fl_out, fn_summit, fn_is_chamber, fn_can_give, fn_can_take, fn_give, fn_take, fn_let, fn_levels, fn_drawn, fn_out, fn_boats, fn_waiting, fn_through, fn_side, fn_place, fn_come, fn_sail, fn_is_level, fn_leave, fn_enter, fl_putD, fl_putO, fl_len, c2, h3, fl_inside]
            rw [at_insV (by omega) (by omega)]
            simp only [give_p, true_and, ins_non]
            by_cases c3 : f.inside.getD (th - 1).toNat none = none
            · rw [if_neg (by rw [decide_eq_true c3]; decide)]
              exact last (fun z => z.2 c3)
            · rw [if_pos (by rw [decide_eq_false c3]; rfl)]
              rw [if_neg (by simp), if_pos ⟨c2, c3⟩] at k
              exact ⟨by decide, k⟩
      rw [sid_eq] at fin
      cases e : f.side b with
      | false =>
        rw [e] at fin
        rw [e3.1 e]
        exact fin
      | true =>
        rw [e] at fin
        rw [e3.2 e]
        exact fin
end
section
variable {P : Program} {w : World} {K : PySem.W.Frag} {mg : Str → Option Value} {base : Heap} {t : Adr}
inductive sp_init (t : Adr) (vs : List V) (H : Hp) (Q : VK) (E : XK) : Prop
  | mk (x l dx : Addr) (lv : List Bool) (z0 : vs = [.ref x, .ref l]) (z1 : H x = some (.ins t.c_Flight dx [])) (z2 : H l = some (.lst (bls lv))) (z3 : lv.length ≤ 1000) (z4 : (if lv.length < 1 ∨ 8 < lv.length then E (.ref t.c_BadFlight) none H else ∀ a H', a.p = x → (∀ y ∈ a.foot, y = x ∨ H y = none) → FlAt t H' a (Fl.new lv) → But [x] H H' → Q .non H')) : sp_init t vs H Q E
theorem rep_ins (n : Nat) : (List.replicate n [V.non]).flatten = insV (List.replicate n none) := by
  induction n with
  | zero => rfl
  | succ n ih =>
    rw [List.replicate_succ, List.replicate_succ, List.flatten_cons, ih]
    rfl
theorem keepx {H : Hp} {x a : Addr} {o u : HO} (n : a ≠ x) (h : H a = some u) : upd H x o a = some u := by rw [upd_ne n]; exact h
theorem but_was {H H' : Hp} {x b : Addr} (s : But [x] H H') (n : b ≠ x) (h : H' b = none) : H b = none := by
  cases q : H b with
  | none => rfl
  | some o => rw [s b o q (by simpa using n)] at h; cases h
theorem but_fresh {H H' : Hp} {x l : Addr} {o : HO} (s : But [x] H H') (g : H l = none) : But [x] H (upd H' l o) := fun b u e n => by rw [upd_ne (ne_of_none e g)]; exact s b u e n
theorem upd_none {H : Hp} {a b : Addr} {o : HO} (h : upd H a o b = none) : b ≠ a ∧ H b = none := by
  by_cases e : b = a
  · subst e; rw [upd_same] at h; cases h
  · rw [upd_ne e] at h; exact ⟨e, h⟩

structure Ini (H H' : Hp) (x C dx : Addr) (fs : List (Str × V)) (os : List (Addr × HO)) : Prop where
  bk : But [x] H H'
  ob : H' x = some (.ins C dx fs)
  al : ∀ p ∈ os, H' p.1 = some p.2 ∧ p.1 ≠ x ∧ H p.1 = none
  nd : (os.map (·.1)).Nodup
theorem Ini.new {H H' : Hp} {x C dx a : Addr} {fs : List (Str × V)} {os : List (Addr × HO)} (I : Ini H H' x C dx fs os) (n : H' a = none) (o : HO) : Ini H (upd H' a o) x C dx fs ((a, o) :: os) where
  bk := I.bk.trans (But.same (same_new n))
  ob := same_new n _ _ I.ob
  al := fun p hp => by
    rcases List.mem_cons.mp hp with rfl | h
    · exact ⟨upd_same, (ne_of_none I.ob n).symm, but_was I.bk (ne_of_none I.ob n).symm n⟩
    · exact ⟨same_new n _ _ (I.al p h).1, (I.al p h).2⟩
  nd := List.nodup_cons.mpr ⟨(fun h => by
    obtain ⟨p, hp, e⟩ := List.mem_map.mp h
    have := (I.al p hp).1
    rw [e, n] at this
    cases this), I.nd⟩
def Alls (q : Addr × HO → Prop) : List (Addr × HO) → Prop
  | [] => True
  | p :: r => q p ∧ Alls q r
theorem alls_of {q : Addr × HO → Prop} : ∀ {os : List (Addr × HO)}, (∀ p ∈ os, q p) → Alls q os
  | [], _ => trivial
  | p :: r, h => ⟨h p (List.mem_cons_self ..), alls_of fun y hy => h y (List.mem_cons_of_mem _ hy)⟩
theorem Ini.set {H H' : Hp} {x C dx : Addr} {fs : List (Str × V)} {os : List (Addr × HO)} (I : Ini H H' x C dx fs os) (fs' : List (Str × V)) : Ini H (upd H' x (.ins C dx fs')) x C dx fs' os where
  bk := I.bk.trans (But.upd (List.mem_singleton.mpr rfl))
  ob := upd_same
  al := fun p hp => ⟨keepx (I.al p hp).2.1 (I.al p hp).1, (I.al p hp).2⟩
  nd := I.nd
theorem Ini.put {H H' : Hp} {x C dx a : Addr} {b c : Addr × HO} {o : HO} {fs : List (Str × V)} {os : List (Addr × HO)} (I : Ini H H' x C dx fs (b :: c :: (a, o) :: os)) (o' : HO) : Ini H (upd H' a o') x C dx fs (b :: c :: (a, o') :: os) := by
  obtain ⟨h1, h2, h3⟩ := I.al (a, o) (by simp)
  have nd := I.nd
  simp only [List.map_cons, List.nodup_cons, List.mem_cons, not_or] at nd
  have key : ∀ p : Addr × HO, p.1 ≠ a → (H' p.1 = some p.2 ∧ p.1 ≠ x ∧ H p.1 = none) → (upd H' a o' p.1 = some p.2 ∧ p.1 ≠ x ∧ H p.1 = none) := fun p n q => ⟨keepx n q.1, q.2⟩
  refine ⟨but_fresh I.bk h3, keepx h2.symm I.ob, fun p hp => ?_, I.nd⟩
  rcases List.mem_cons.mp hp with rfl | hp
  · exact key _ nd.1.2.1 (I.al _ (by simp))
  rcases List.mem_cons.mp hp with rfl | hp
  · exact key _ nd.2.1.1 (I.al _ (by simp))
  rcases List.mem_cons.mp hp with rfl | hp
  · exact ⟨upd_same, h2, h3⟩
  · exact key p (fun e => nd.2.2.1 (List.mem_map.mpr ⟨p, hp, e⟩)) (I.al p (by simp [hp]))
theorem Ini.flight {t : Adr} {H H' : Hp} {dx a0 : Addr} {o0 : HO} {fs : List (Str × V)} {A : FA} {lv : List Bool}
    (I : Ini H H' A.p t.c_Flight dx fs [(A.g, .lst []), (A.s, .lst []), (A.d, .lst []), (A.u, .lst []), (A.r, .dK [(Sum.inr (Str.ofString "up"), V.ref A.u), (Sum.inr (Str.ofString "down"), V.ref A.d)]), (A.i, .lst (insV (List.replicate lv.length none))), (a0, o0), (A.h, .lst (bls lv))]) (e : fs = flds A 0 0) : FlAt t H' A (Fl.new lv) := by
  subst e
  obtain ⟨⟨hg, _⟩, ⟨hs, _⟩, ⟨hd, _⟩, ⟨hu, _⟩, ⟨hr, _⟩, ⟨hi, _⟩, _, ⟨hh, _⟩, _⟩ := alls_of I.al
  have nd : [A.h, a0, A.i, A.r, A.u, A.d, A.s, A.g].Nodup := List.pairwise_reverse.mpr (I.nd.imp Ne.symm)
  have sb : [A.h, A.i, A.r, A.u, A.d, A.s, A.g].Sublist [A.h, a0, A.i, A.r, A.u, A.d, A.s, A.g] := .cons₂ _ (.cons _ (List.Sublist.refl _))
  refine ⟨⟨dx, I.ob⟩, hh, hi, hr, hu, hd, hs, hg, List.nodup_cons.mpr ⟨fun h => ?_, nd.sublist sb⟩⟩
  obtain ⟨q, hq, e⟩ := List.mem_map.mp (List.mem_reverse.mp (show A.p ∈ (List.map (fun x : Addr × HO => x.1) [(A.g, HO.lst []), (A.s, HO.lst []), (A.d, HO.lst []), (A.u, HO.lst []), (A.r, HO.dK [(Sum.inr (Str.ofString "up"), V.ref A.u), (Sum.inr (Str.ofString "down"), V.ref A.d)]), (A.i, HO.lst (insV (List.replicate lv.length none))), (a0, o0), (A.h, HO.lst (bls lv))]).reverse from sb.subset h))
  exact (I.al q hq).2.1 e
theorem Ini.foot {H H' : Hp} {C dx a0 : Addr} {o0 og os od ou or' oi oh : HO} {fs : List (Str × V)} {A : FA} (I : Ini H H' A.p C dx fs [(A.g, og), (A.s, os), (A.d, od), (A.u, ou), (A.r, or'), (A.i, oi), (a0, o0), (A.h, oh)]) : ∀ y ∈ A.foot, y = A.p ∨ H y = none := by
  have sb : [A.h, A.i, A.r, A.u, A.d, A.s, A.g].Sublist [A.h, a0, A.i, A.r, A.u, A.d, A.s, A.g] := .cons₂ _ (.cons _ (List.Sublist.refl _))
  intro y hy
  rcases List.mem_cons.mp hy with e | h
  · exact .inl e
  · obtain ⟨q, hq, e⟩ := List.mem_map.mp (List.mem_reverse.mp (show y ∈ (List.map (fun x => x.1) [(A.g, og), (A.s, os), (A.d, od), (A.u, ou), (A.r, or'), (A.i, oi), (a0, o0), (A.h, oh)]).reverse from sb.subset h))
    exact .inr (e ▸ (I.al q hq).2.2)
theorem sc_init : FnScope ["self", "levels"] ["self", "levels"] (defScope s_init) := ⟨rfl, rfl, rfl, by decide +kernel, rfl, by decide +kernel, by decide +kernel⟩
set_option maxHeartbeats 800000 in
theorem ok_init (T : Txt w K mg t) : FnOk P w K mg base (CXe P w) 1 t.f_init t.d_init ["self", "levels"] (sp_init t) := by
  refine okX T.F_init sc_init (fun vs H Q E h => ?_) (fun cdv A outer s H vs Q E hr h => ?_)
  · obtain ⟨x, l, dx, lv, rfl, _⟩ := h; rfl
  · obtain ⟨x, l, dx, lv, rfl, h1, h2, hz, k⟩ := h
    have nxl : x ≠ l := ne_of h1 h2 (by intro z; cases z)
    refine ⟨_, (pss_cons (ps_if (PW.pt (pw_or (tu_cmp ou_lt (pe_callB cu_len rfl T.z_len PySem.boot_len (pa_cons (pu 1) pa_nil)) pe_int (nomark _)) (pw_or1 (tu_cmp ou_gt (pe_callB cu_len rfl T.z_len PySem.boot_len (pa_cons (pu 1) pa_nil)) (pe_glob (v := .int 8) rfl T.g_MOST_CHAMBERS ⟨_, rfl⟩) (nomark _))))) (pss_one (ps_raise raiseB rfl T.x_BadFlight PySem.F.excBase_ValueError rfl T.g_BadFlight (pa_cons pe_str pa_nil))) pss_nil)
 (pss_cons (su_fldK (K := K) rfl (pu 0) (pe_callTy cu_list rfl T.z_list PyProof.Rows.boot_list (pa_cons (pu 1) pa_nil)))
 (pss_cons (su_fldK (K := K) rfl (pu 0) (pe_op ou_mul (pe_lst (pa_cons pe_non pa_nil)) (pe_callB cu_len rfl T.z_len PySem.boot_len (pa_cons (pu 1) pa_nil))))
 (pss_cons (su_fldK (K := K) rfl (pu 0) (pe_disp (pps_cons pe_str (pe_lst pa_nil) (pps_cons pe_str (pe_lst pa_nil) pps_nil)) rfl rfl (by intro z; cases z) (by decide)))
 (pss_cons (su_fldK (K := K) rfl (pu 0) (pe_lst pa_nil))
 (pss_cons (su_fldK (K := K) rfl (pu 0) (pe_lst pa_nil))
 (pss_cons (su_fldK (K := K) rfl (pu 0) pe_int)
 (pss_one (su_fldK (K := K) rfl (pu 0) pe_int))))))))), ?_⟩
    rw [tSeq]
    generalize hR1 : tSeq _ _ = R1
    try simp_arith [tRaise, h2, len_bls]
    by_cases c0 : lv.length < 1
    · rw [if_pos (.inl c0)] at k
      rw [if_pos (by simpa using (by omega : ((lv.length : Nat) : Int) < 1))]
      exact ⟨by decide, k⟩
    rw [if_neg (by simp; omega)]
    by_cases c1 : 8 < lv.length
    · rw [if_pos (.inr c1)] at k
      rw [if_pos (by simp; omega)]
      exact ⟨by decide, k⟩
    rw [if_neg (by simp; omega)]
    rw [if_neg (by omega)] at k
    have I0 : Ini H H x t.c_Flight dx [] [] := ⟨But.refl _ _, h1, fun p hp => (nomatch hp), List.nodup_nil⟩
    generalize hD : Ends.mk _ _ _ _ = D
    -- self.high
    subst hR1
    rw [tSeq]
    generalize hR : tSeq _ _ = R
    try simp_arith [h2]
    intro ah n_ah
    have I := I0.new n_ah (HO.lst (bls lv))
    generalize upd H ah (HO.lst (bls lv)) = H1 at *
    try simp_arith [I.ob, T.cl, T.n_high]
    refine ⟨show 0 < 1000 by decide, ?_⟩
    replace I := I.set (putF (Str.ofString "high") (V.ref ah) [])
    generalize upd H1 x _ = H2 at *
    -- self.inside
    subst hR
    rw [tSeq]
    generalize hR : tSeq _ _ = R
    have el := I.bk _ _ h2 (by simpa using nxl.symm)
    try simp_arith [true_and]
    refine ⟨by decide, fun a0 n_a0 => ?_⟩
    replace I := I.new n_a0 (HO.lst [V.non])
    replace el := same_new (o := HO.lst [V.non]) n_a0 _ _ el
    have e0 : upd H2 a0 (HO.lst [V.non]) a0 = some (HO.lst [V.non]) := upd_same
    generalize upd H2 a0 (HO.lst [V.non]) = H3 at *
    try simp_arith [e0, el, len_bls]
    refine ⟨⟨by omega, by omega, ?_⟩, ?_⟩
    · exact Nat.le_trans (by omega : (0 + 1) * ((lv.length : Int)).toNat ≤ 1000) (by decide)
    rw [rep_ins, show ((lv.length : Int)).toNat = lv.length from by omega]
    intro ai n_ai
    replace I := I.new n_ai (HO.lst (insV (List.replicate lv.length none)))
    generalize upd H3 ai _ = H4 at *
    clear el e0
    try simp_arith [I.ob, T.cl, T.n_inside]
    refine ⟨show 1 < 1000 by decide, ?_⟩
    replace I := I.set (putF (Str.ofString "inside") (V.ref ai) (putF (Str.ofString "high") (V.ref ah) []))
    generalize upd H4 x _ = H5 at *
    -- self.rows
    subst hR
    rw [tSeq]
    generalize hR : tSeq _ _ = R
    try simp_arith [tDisp, tPairs]
    intro ar n_ar
    replace I := I.new n_ar (HO.dK [])
    generalize upd H5 ar _ = H6 at *
    refine ⟨by decide, fun au n_au => ?_⟩
    replace I := I.new n_au (HO.lst [])
    generalize upd H6 au _ = H7 at *
    refine ⟨by decide, fun ad n_ad => ?_⟩
    replace I := I.new n_ad (HO.lst [])
    generalize upd H7 ad _ = H8 at *
    refine ⟨(alls_of I.al).2.2.1.1, [(Sum.inr "up", .ref au), (Sum.inr "down", .ref ad)], rfl, by simp, ?_⟩
    rw [show mergeK [] [(Sum.inr (Str.ofString "up"), V.ref au), (Sum.inr (Str.ofString "down"), V.ref ad)] = [(Sum.inr (Str.ofString "up"), V.ref au), (Sum.inr (Str.ofString "down"), V.ref ad)] from rfl]
    replace I := I.put (HO.dK [(Sum.inr (Str.ofString "up"), V.ref au), (Sum.inr (Str.ofString "down"), V.ref ad)])
    generalize upd H8 ar _ = H9 at *
    try simp_arith [I.ob, T.cl, T.n_rows]
    refine ⟨show 2 < 1000 by decide, ?_⟩
    replace I := I.set (putF (Str.ofString "rows") (V.ref ar) (putF (Str.ofString "inside") (V.ref ai) (putF (Str.ofString "high") (V.ref ah) [])))
    generalize upd H9 x _ = H10 at *
    -- self.sides
    subst hR
    rw [tSeq]
    generalize hR : tSeq _ _ = R
    try simp_arith [true_and]
    refine ⟨by decide, fun a_s n_a_s => ?_⟩
    replace I := I.new n_a_s (HO.lst [])
    generalize upd H10 a_s _ = H11 at *
    try simp_arith [I.ob, T.cl, T.n_sides]
    refine ⟨show 3 < 1000 by decide, ?_⟩
    replace I := I.set (putF (Str.ofString "sides") (V.ref a_s) (putF (Str.ofString "rows") (V.ref ar) (putF (Str.ofString "inside") (V.ref ai) (putF (Str.ofString "high") (V.ref ah) []))))
    generalize upd H11 x _ = H12 at *
    -- self.gone
    subst hR
    rw [tSeq]
    generalize hR : tSeq _ _ = R
    try simp_arith [true_and]
    refine ⟨by decide, fun a_g n_a_g => ?_⟩
    replace I := I.new n_a_g (HO.lst [])
    generalize upd H12 a_g _ = H13 at *
    try simp_arith [I.ob, T.cl, T.n_gone]
    refine ⟨show 4 < 1000 by decide, ?_⟩
    replace I := I.set (putF (Str.ofString "gone") (V.ref a_g) (putF (Str.ofString "sides") (V.ref a_s) (putF (Str.ofString "rows") (V.ref ar) (putF (Str.ofString "inside") (V.ref ai) (putF (Str.ofString "high") (V.ref ah) [])))))
    generalize upd H13 x _ = H14 at *
    subst hR
    rw [tSeq]
    try simp_arith [I.ob, T.cl, T.n_lockfuls_drawn]
    refine ⟨show 5 < 1000 by decide, ?_⟩
    replace I := I.set (putF (Str.ofString "lockfuls_drawn") (V.int 0) (putF (Str.ofString "gone") (V.ref a_g) (putF (Str.ofString "sides") (V.ref a_s) (putF (Str.ofString "rows") (V.ref ar) (putF (Str.ofString "inside") (V.ref ai) (putF (Str.ofString "high") (V.ref ah) []))))))
    generalize upd H14 x _ = H15 at *
    try simp_arith [I.ob, T.cl, T.n_lockfuls_out]
    refine ⟨show 6 < 1000 by decide, ?_⟩
    replace I := I.set (putF (Str.ofString "lockfuls_out") (V.int 0) (putF (Str.ofString "lockfuls_drawn") (V.int 0) (putF (Str.ofString "gone") (V.ref a_g) (putF (Str.ofString "sides") (V.ref a_s) (putF (Str.ofString "rows") (V.ref ar) (putF (Str.ofString "inside") (V.ref ai) (putF (Str.ofString "high") (V.ref ah) [])))))))
    generalize upd H15 x _ = H16 at *
    subst hD
    exact k ⟨x, ah, ai, ar, au, ad, a_s, a_g⟩ _ rfl (Ini.foot (A := ⟨x, ah, ai, ar, au, ad, a_s, a_g⟩) I) (Ini.flight (A := ⟨x, ah, ai, ar, au, ad, a_s, a_g⟩) I rfl) I.bk
end
def cellOf (ns : List Int) (k : Int) : Int := ns.getD k.toNat 0
section
variable {P : Program} {w : World} {K : PySem.W.Frag} {mg : Str → Option Value} {base : Heap} {t : Adr}
theorem same_was {H H' : Hp} (s : Same H H') {b : Addr} (h : H' b = none) : H b = none := by
  cases q : H b with
  | none => rfl
  | some o => rw [s b o q] at h; cases h
inductive sp_cell (K : PySem.W.Frag) (vs : List V) (H : Hp) (Q : VK) (E_ : XK) : Prop
  | mk (a : Addr) (ns : List Int) (k : Int) (z0 : vs = [.ref a, .int k]) (z1 : SqL K H a (ns.map V.int)) (z2 : 0 ≤ k) (z3 : Q (.int (cellOf ns k)) H) : sp_cell K vs H Q E_
theorem sc_l_cell_at : FnScope ["script", "k"] ["script", "k"] (defScope s_l_cell_at) := ⟨rfl, rfl, rfl, by decide +kernel, rfl, by decide +kernel, by decide +kernel⟩
set_option maxHeartbeats 800000 in
theorem ok_l_cell_at (T : Txt w K mg t) : FnOk P w K mg base (CXe P w) 1 t.f_l_cell_at t.d_l_cell_at ["script", "k"] (sp_cell K) := by
  refine okX T.F_l_cell_at sc_l_cell_at (fun vs H Q E h => ?_) (fun cdv A outer s H vs Q E hr h => ?_)
  · obtain ⟨a, ns, k, rfl, _⟩ := h; rfl
  · obtain ⟨a, ns, i, rfl, hS, h0, k⟩ := h
    refine ⟨_, (pss_cons (ps_if (tu_cmp ou_lt (pu 1) (pe_callB (len_seqK (K := K) rfl) rfl T.z_len PySem.boot_len (pa_cons (pu 0) pa_nil)) (nomark _)) (pss_one (ps_ret (eu_ix (ix_listK (K := K) rfl) (pu 0) (pu 1)))) pss_nil)
 (pss_one (ps_ret pe_int))), ?_⟩
    try simp_arith [tSeq]
    refine ⟨a, _, rfl, .inl hS, ?_⟩
    simp only [List.length_map]
    by_cases c : i < (ns.length : Int)
    · simp only [c, decide_true, if_true]
      refine ⟨a, _, i, .int (cellOf ns i), rfl, rfl, hS, ?_, k⟩
      unfold atI cellOf
      rw [List.length_map, ixN_nat h0 c]
      have : i.toNat < ns.length := by omega
      simp [List.getD, this]
    · simp only [c, decide_false, Bool.false_eq_true, if_false]
      have e : cellOf ns i = 0 := by
        unfold cellOf
        have : ns.length ≤ i.toNat := by omega
        simp [List.getD, this]
      rw [e] at k
      exact k
def pw (k : Nat) : Int := [1, 2, 4, 8, 16, 32, 64, 128].getD k 1
theorem pw_rng (k : Nat) : 0 < pw k ∧ pw k < 1073741824 := by
  by_cases h : k < 8
  · have : ∀ k : Fin 8, 0 < pw k.1 ∧ pw k.1 < 1073741824 := by decide
    exact this ⟨k, h⟩
  · have : pw k = 1 := by unfold pw; rw [List.getD_eq_getElem?_getD, List.getElem?_eq_none (Nat.le_of_not_lt h)]; rfl
    rw [this]; decide
theorem at_pw {k : Nat} (h : k < 8) : atI [V.int 1, V.int 2, V.int 4, V.int 8, V.int 16, V.int 32, V.int 64, V.int 128] (0 + (k : Int)) = some (.int (pw k)) := by
  have : ∀ k : Fin 8, atI [V.int 1, V.int 2, V.int 4, V.int 8, V.int 16, V.int 32, V.int 64, V.int 128] (0 + ((k.1 : Nat) : Int)) = some (.int (pw k.1)) := by decide
  exact this ⟨k, h⟩
end
section
variable {P : Program} {w : World} {K : PySem.W.Frag} {mg : Str → Option Value} {base : Heap} {t : Adr}
structure SA where
  q : Addr
  h : Addr
  s : Addr
  p : Addr
  t : Addr
def SA.foot (b : SA) : List Addr := [b.q, b.h, b.s, b.p, b.t]
def stk (b : SA) (dr ou : Int) : List (Key × V) := [(.inr "high", .ref b.h), (.inr "sides", .ref b.s), (.inr "places", .ref b.p), (.inr "through", .ref b.t), (.inr "drawn", .int dr), (.inr "out", .int ou)]
end
section
variable {P : Program} {w : World} {K : PySem.W.Frag} {mg : Str → Option Value} {base : Heap} {t : Adr}
end
theorem st' (b : SA) : b.t ∈ b.foot := by simp [SA.foot]
section
variable {P : Program} {w : World} {K : PySem.W.Frag} {mg : Str → Option Value} {base : Heap} {t : Adr}
end
section
variable {P : Program} {w : World} {K : PySem.W.Frag} {mg : Str → Option Value} {base : Heap} {t : Adr}
end
section
variable {P : Program} {w : World} {K : PySem.W.Frag} {mg : Str → Option Value} {base : Heap} {t : Adr}
end
theorem FlAt.there {t : Adr} {H : Hp} {a : FA} {f : Fl} (F : FlAt t H a f) : ∀ y ∈ a.foot, ∃ o, H y = some o := by
  obtain ⟨⟨dx, h1⟩, h2, h3, h4, h5, h6, h7, h8, h9⟩ := F
  intro y hy
  simp only [FA.foot, List.mem_cons, List.not_mem_nil, or_false] at hy
  rcases hy with rfl | rfl | rfl | rfl | rfl | rfl | rfl | rfl <;> exact ⟨_, by assumption⟩
theorem apart {H : Hp} {xs ys : List Addr} (h : ∀ y ∈ xs, ∃ o, H y = some o) (n : ∀ y ∈ ys, H y = none) : ∀ y ∈ xs, y ∉ ys := fun y hy hy' => by
  obtain ⟨o, e⟩ := h y hy
  rw [n y hy'] at e; cases e
theorem notin {H : Hp} {ys : List Addr} {y : Addr} {o : HO} (e : H y = some o) (n : ∀ y ∈ ys, H y = none) : y ∉ ys := fun hy' => by
  rw [n y hy'] at e; cases e
theorem newin {H : Hp} {xs : List Addr} {y : Addr} (h : ∀ y ∈ xs, ∃ o, H y = some o) (n : H y = none) : y ∉ xs := fun hy => by
  obtain ⟨o, e⟩ := h y hy
  rw [n] at e; cases e
theorem mk_flight {t : Adr} {H : Hp} {x dx l : Addr} {lv : List Bool} {Q : VK} {E : XK} (nx : H x = none) (ndx : H dx = none) (ne : dx ≠ x) (hl : H l = some (.lst (bls lv))) (lo : 1 ≤ lv.length) (hi : lv.length ≤ 8)
    (k : ∀ (A : FA) H', A.p = x → (∀ y ∈ A.foot, H y = none) → Same H H' → FlAt t H' A (Fl.new lv) → Q .non H') :
    sp_init t [.ref x, .ref l] (upd (upd H dx (.own x)) x (.ins t.c_Flight dx [])) Q E := by
  have n1 : l ≠ x := ne_of_none hl nx
  have n2 : l ≠ dx := ne_of_none hl ndx
  refine ⟨x, l, dx, lv, rfl, upd_same, by rw [upd_ne n1, upd_ne n2]; exact hl, by omega, ?_⟩
  rw [if_neg (by omega)]
  intro A H' e fr F b
  refine k A H' e (fun y hy => ?_) (fun y o ey => ?_) F
  · rcases fr y hy with h | h
    · rw [h]; exact nx
    · exact (upd_none (upd_none h).2).2
  · have m1 : y ≠ x := ne_of_none ey nx
    have m2 : y ≠ dx := ne_of_none ey ndx
    exact b y o (by rw [upd_ne m1, upd_ne m2]; exact ey) (by simpa using m1)
section
variable {P : Program} {w : World} {K : PySem.W.Frag} {mg : Str → Option Value} {base : Heap} {t : Adr}
end
theorem app_sidV' (l : List Bool) (b : Bool) : sidV l ++ [sid b] = sidV (l ++ [b]) := by unfold sidV; simp
theorem sid_u : sid false = V.str (Str.ofString "up") := rfl
theorem sid_d : sid true = V.str (Str.ofString "down") := rfl
theorem sid_is_u (b : Bool) : decide (sid b = V.str (Str.ofString "up")) = !b := by cases b <;> decide
theorem sid_is_d (b : Bool) : decide (sid b = V.str (Str.ofString "down")) = b := by cases b <;> decide
theorem for_var {K : PySem.W.Frag} {a : Addr} {xs : List V} {v : Nat} {g : TG} {tb : TS} {D : Ends} {σ : St} {H : Hp} (Pv : Nat → St → Hp → Prop) (hv : σ[v]? = some (some (.ref a))) (h0 : Pv 0 σ H) (hl : ∀ i σ H, Pv i σ H → H a = some (.lst xs))
    (hs : ∀ i x σ H, xs[i]? = some x → Pv i σ H → g x σ H fun σ2 H2 => tb { D with nx := Pv (i + 1), ct := Pv (i + 1), bk := D.nx } σ2 H2) (hd : ∀ σ H, Pv xs.length σ H → D.nx σ H) :
    tFor (iList K (vU v)) g tb D σ H := by
  unfold tFor iList vU
  rw [hv]
  exact ⟨a, rfl, ⟨_, .inl (.inl (hl _ _ _ h0))⟩, for_list Pv h0 (fun i σ H _ h => .inl (.inl (hl i σ H h))) hs hd⟩
theorem sid_at {S : List Bool} {i : Nat} {x : V} (h : (sidV S)[i]? = some x) : ∃ d, S[i]? = some d ∧ x = sid d := by
  unfold sidV at h
  rw [List.getElem?_map] at h
  obtain ⟨d, h1, h2⟩ := Option.map_eq_some_iff.mp h
  exact ⟨d, h1, h2.symm⟩
theorem costOf_take (h S : List Bool) {i : Nat} {d : Bool} (e : S[i]? = some d) : costOf h (S.take (i + 1)) = costOf h (S.take i) + cost1 (aft h (S.take i)) d ∧ aft h (S.take (i + 1)) = (aft h (S.take i)).map fun _ => !d := by
  have : S.take (i + 1) = S.take i ++ [d] := by rw [List.take_succ, e]; rfl
  rw [this, costOf_snoc, aft_snoc]; exact ⟨rfl, rfl⟩
theorem cut_one (l : List Bool) : cutV (bls l) (some 1) none = bls (l.drop 1) := by
  unfold cutV
  have e1 : HT.sIx (bls l).length 0 (some 1) = min 1 (bls l).length := HT.sIx_nat _ _ 1
  rw [e1, HT.sIx_none]
  unfold bls
  cases l with
  | nil => rfl
  | cons a r => simp [Nat.min_eq_left, List.take_of_length_le]
theorem flat_bls' (l : List Bool) : (bls l).all flatV = true := by unfold bls; simp [List.all_eq_true, flatV]
theorem count_low (h : List Bool) : ((bls h).countP fun z => eqV z (.bl false)) = h.count false := by
  unfold bls
  induction h with
  | nil => rfl
  | cons a r ih =>
    rw [List.map_cons, List.countP_cons, ih, List.count_cons]
    cases a <;> rfl
theorem at_last {l : List Bool} (h : 1 ≤ l.length) : atI (bls l) (negI 1) = some (.bl (l.getLastD true)) := by
  unfold atI ixN negI bls
  rw [List.length_map, if_neg (by omega), if_pos (by omega)]
  have e : (-(1 : Int) + (l.length : Int)).toNat = l.length - 1 := by omega
  rw [e]
  simp only [Option.bind_some, List.getElem?_map]
  cases l with
  | nil => simp at h
  | cons a r =>
    rw [List.getElem?_eq_getElem (by simp)]
    simp [List.getLastD, List.getLast_eq_getElem]
section
variable {P : Program} {w : World} {K : PySem.W.Frag} {mg : Str → Option Value} {base : Heap} {t : Adr}
end
def ordOf (ns : List Int) (st : Int) (n : Nat) : List Bool := (List.range n).map fun (k : Nat) => decide (cellOf ns (st + (0 + (k : Int))) / 3 % 2 = 1)
theorem ord_len (ns : List Int) (st : Int) (n : Nat) : (ordOf ns st n).length = n := by unfold ordOf; simp
theorem at_side (x : Int) : atI [V.str (Str.ofString "up"), V.str (Str.ofString "down")] (x % 2) = some (sid (decide (x % 2 = 1))) := by
  have : x % 2 = 0 ∨ x % 2 = 1 := by omega
  rcases this with h | h <;> rw [h] <;> rfl
section
variable {P : Program} {w : World} {K : PySem.W.Frag} {mg : Str → Option Value} {base : Heap} {t : Adr}
inductive sp_order (K : PySem.W.Frag) (vs : List V) (H : Hp) (Q : VK) (E_ : XK) : Prop
  | mk (a : Addr) (ns : List Int) (st sz : Int) (z0 : vs = [.ref a, .int st, .int sz]) (z1 : SqL K H a (ns.map V.int)) (z2 : 0 ≤ st) (z3 : 0 ≤ sz) (z4 : sz ≤ 1000) (z5 : ∀ l H', Same H H' → H l = none → H' l = some (.lst (sidV (ordOf ns st sz.toNat))) → Q (.ref l) H') : sp_order K vs H Q E_
theorem sc_l_order : FnScope ["script", "start", "size"] ["script", "start", "size"] (defScope s_l_order) := ⟨rfl, rfl, rfl, by decide +kernel, rfl, by decide +kernel, by decide +kernel⟩
set_option maxHeartbeats 800000 in
theorem ok_l_order (T : Txt w K mg t) : FnOk P w K mg base (CXe P w) 2 t.f_l_order t.d_l_order ["script", "start", "size"] (sp_order K) := by
  have G_l_cell_at := ok_l_cell_at (P := P) (w := w) (base := base) T
  refine okX T.F_l_order sc_l_order (fun vs H Q E h => ?_) (fun cdv A outer s H vs Q E hr h => ?_)
  · obtain ⟨a, ns, st, sz, rfl, _⟩ := h; rfl
  · obtain ⟨a, ns, st, sz, rfl, hS, h0, h1, h2, k⟩ := h
    refine ⟨_, (pss_one (ps_ret (pe_comp (fv := ["script", "start"]) (ixs := [0, 1]) rfl (by decide +kernel) rfl rfl (pi_range1 rfl T.z_range (pa_cons (pu 2) pa_nil)) (fun cl C s H fp => pif_nil) (fun cl C s H fp => (eu_ix xu_seq (pe_lst (pa_cons pe_str (pa_cons pe_str pa_nil))) (pe_op ou_mod (pe_op ou_fdiv (eu_call G_l_cell_at (hr.mono (by decide)) rfl T.g_l_cell_at T.F_l_cell_at.kp T.b_l_cell_at passF (pa_cons (pu 1) (pa_cons (pe_op ou_add (pu 2) (pu 0)) pa_nil))) pe_int) pe_int)))))), ?_⟩
    try simp_arith [iRng1]
    refine ⟨_, rfl, by omega, by omega, comp_range (fun _ => true) (fun k => sid (decide (cellOf ns (st + (0 + (k : Int))) / 3 % 2 = 1))) ?_ ?_ ?_⟩
    · exact Nat.le_trans (by omega : _ ≤ 1000) (by decide)
    · intro i hi H1 s1 Rt Rf hRt hRf
      try simp_arith [tAll]
      refine ⟨by decide, fun l hl => ?_⟩
      have s2 := s1.trans (same_new (o := HO.lst [V.str (Str.ofString "up"), V.str (Str.ofString "down")]) hl)
      refine ⟨a, ns, st + (0 + (i : Int)), rfl, s2.seq hS, by omega, ?_⟩
      try simp_arith [true_and]
      refine ⟨⟨by decide, by decide⟩, by decide, ?_⟩
      rw [at_side]
      try simp_arith [true_and]
      exact hRt rfl _ s2
    · intro H' s1 D nD
      refine k D _ (s1.trans (same_new nD)) (same_was s1 nD) ?_
      rw [upd_same]
      congr 2
      rw [List.filter_eq_self.mpr (fun _ _ => rfl)]
      unfold ordOf sidV
      rw [List.map_map]
      rfl
end
def rhF (p d : Addr) : List (Str × V) := [("flight", .ref p), ("deeds", .ref d)]
theorem rh_fl (p d : Addr) : (rhF p d).lookup ("flight" : Str) = some (V.ref p) := rfl
theorem rh_dd (p d : Addr) : (rhF p d).lookup ("deeds" : Str) = some (V.ref d) := rfl
theorem rq_let (p d : Addr) : (rhF p d).lookup ("let" : Str) = none := rfl
theorem rq_sail (p d : Addr) : (rhF p d).lookup ("sail" : Str) = none := rfl
theorem rq_mh (p d : Addr) : (rhF p d).lookup ("make_high" : Str) = none := rfl
theorem rq_ml (p d : Addr) : (rhF p d).lookup ("make_low" : Str) = none := rfl
theorem rq_hi (p d : Addr) : (rhF p d).lookup ("highest" : Str) = none := rfl
theorem rq_is (p d : Addr) : (rhF p d).lookup ("is_high" : Str) = none := rfl
theorem rq_bu (p d : Addr) : (rhF p d).lookup ("bring_up" : Str) = none := rfl
theorem rq_bd (p d : Addr) : (rhF p d).lookup ("bring_down" : Str) = none := rfl
def deedV : Deed → List V
  | .let g => [.str "let", .int g]
  | .sail b => [.str "sail", .int b]
structure RAt (t : Adr) (H : Hp) (r : Addr) (A : FA) (d : Addr) (ps : List Addr) (f : Fl) (ds : List Deed) : Prop where
  ob : ∃ dx, H r = some (.ins t.c_Rehearsal dx (rhF A.p d))
  fl : FlAt t H A f
  dl : H d = some (.lst (ps.map V.ref))
  ln : ps.length = ds.length
  it : ∀ (j : Nat) (p : Addr) (dd : Deed), ps[j]? = some p → ds[j]? = some dd → H p = some (.tup (deedV dd))
  rA : r ∉ A.foot
  dA : d ∉ A.foot
  rd : r ≠ d
  pA : ∀ p ∈ ps, p ∉ A.foot ∧ p ≠ d ∧ p ≠ r
theorem RAt.same {t : Adr} {H H' : Hp} {r : Addr} {A : FA} {d : Addr} {ps : List Addr} {f : Fl} {ds : List Deed} (R : RAt t H r A d ps f ds) (s : Same H H') : RAt t H' r A d ps f ds := by
  obtain ⟨⟨dx, e⟩, fl, dl, ln, it, rA, dA, rd, pA⟩ := R
  exact ⟨⟨dx, s _ _ e⟩, fl.same s, s _ _ dl, ln, fun j p dd e1 e2 => s _ _ (it j p dd e1 e2), rA, dA, rd, pA⟩
theorem RAt.flt {t : Adr} {H H' : Hp} {r : Addr} {A : FA} {d : Addr} {ps : List Addr} {f f' : Fl} {ds : List Deed} (R : RAt t H r A d ps f ds) (F : FlAt t H' A f') (b : But A.foot H H') : RAt t H' r A d ps f' ds := by
  obtain ⟨⟨dx, e⟩, fl, dl, ln, it, rA, dA, rd, pA⟩ := R
  refine ⟨⟨dx, b _ _ e rA⟩, F, b _ _ dl dA, ln, fun j p dd e1 e2 => b _ _ (it j p dd e1 e2) (pA p (List.mem_of_getElem? e1)).1, rA, dA, rd, pA⟩
theorem RAt.deed {t : Adr} {H : Hp} {r : Addr} {A : FA} {d q : Addr} {ps : List Addr} {f : Fl} {ds : List Deed} (R : RAt t H r A d ps f ds) (dd : Deed) (n : H q = none) :
    RAt t (upd (upd H q (.tup (deedV dd))) d (.lst (ps.map V.ref ++ [.ref q]))) r A d (ps ++ [q]) f (ds ++ [dd]) ∧ But (d :: A.foot) H (upd (upd H q (.tup (deedV dd))) d (.lst (ps.map V.ref ++ [.ref q]))) := by
  obtain ⟨⟨dx, e⟩, fl, dl, ln, it, rA, dA, rd, pA⟩ := R
  have s := same_new (o := HO.tup (deedV dd)) n
  have nd : q ≠ d := (ne_of_none dl n).symm
  have b : But [d] H (upd (upd H q (.tup (deedV dd))) d (.lst (ps.map V.ref ++ [.ref q]))) := fun y o e ny => by
    rw [upd_ne (by simpa using ny)]; exact s y o e
  refine ⟨⟨⟨dx, b _ _ e (by simpa using rd)⟩, fl.but b fun y hy z => ?_, by rw [upd_same]; simp, by simp [ln], fun j p d' e1 e2 => ?_, rA, dA, rd, fun p hp => ?_⟩, b.mono fun y hy => ?_⟩
  · have : y = d := by simpa using z
    rw [this] at hy; exact dA hy
  · by_cases c : j < ps.length
    · rw [List.getElem?_append_left c] at e1
      rw [List.getElem?_append_left (by omega)] at e2
      exact b _ _ (it j p d' e1 e2) (by have := (pA p (List.mem_of_getElem? e1)).2.1; simpa using this)
    · rw [List.getElem?_append_right (by omega)] at e1
      rw [List.getElem?_append_right (by omega)] at e2
      have ej : j - ps.length = 0 := by
        cases z : j - ps.length with
        | zero => rfl
        | succ k => rw [z] at e1; simp at e1
      have ej2 : j - ds.length = 0 := by omega
      rw [ej] at e1
      rw [ej2] at e2
      have h1 : q = p := by simpa using e1
      have h2 : dd = d' := by simpa using e2
      subst h1 h2
      rw [upd_ne nd, upd_same]
  · rcases List.mem_append.mp hp with z | z
    · exact pA p z
    · have e3 : p = q := by simpa using z
      subst e3
      exact ⟨newin fl.there n, nd, (ne_of_none e n).symm⟩
  · have : y = d := by simpa using hy
    rw [this]; simp
section
variable {P : Program} {w : World} {K : PySem.W.Frag} {mg : Str → Option Value} {base : Heap} {t : Adr}
inductive sp_rinit (t : Adr) (vs : List V) (H : Hp) (Q : VK) (E_ : XK) : Prop
  | mk (x l dx : Addr) (lv : List Bool) (z0 : vs = [.ref x, .ref l]) (z1 : H x = some (.ins t.c_Rehearsal dx [])) (z2 : H l = some (.lst (bls lv))) (z3 : 1 ≤ lv.length) (z4 : lv.length ≤ 8) (z5 : ∀ A d H', RAt t H' x A d [] (Fl.new lv) [] → But [x] H H' → (∀ y ∈ d :: A.foot, H y = none) → Q .non H') : sp_rinit t vs H Q E_
theorem sc_Rehearsal_init : FnScope ["self", "levels"] ["self", "levels"] (defScope s_Rehearsal_init) := ⟨rfl, rfl, rfl, by decide +kernel, rfl, by decide +kernel, by decide +kernel⟩
set_option maxHeartbeats 800000 in
theorem ok_Rehearsal_init (T : Txt w K mg t) : FnOk P w K mg base (CXe P w) 3 t.f_Rehearsal_init t.d_Rehearsal_init ["self", "levels"] (sp_rinit t) := by
  have G_init := ok_init (P := P) (w := w) (base := base) T
  refine okX T.F_Rehearsal_init sc_Rehearsal_init (fun vs H Q E h => ?_) (fun cdv A outer s H vs Q E hr h => ?_)
  · obtain ⟨x, l, dx, lv, rfl, _⟩ := h; rfl
  · obtain ⟨x, l, dx, lv, rfl, hx, hl, lo, hi, k⟩ := h
    refine ⟨_, (pss_cons (su_fldK (K := K) rfl (pu 0) (eu_make T.mkc G_init (hr.mono (by decide)) rfl T.g_Flight T.b_init passB (pa_cons (pu 1) pa_nil)))
 (pss_one (su_fldK (K := K) rfl (pu 0) (pe_lst pa_nil)))), ?_⟩
    refine seqG fun R0 hR0 => ?_
    try simp_arith [hx, T.cl_Rehearsal, T.n_Rehearsal_flight]
    intro y dy ny ndy ndyy
    refine mk_flight ny ndy ndyy hl lo hi fun A H3 eA frA s3 F3 => ⟨rfl, ?_⟩
    subst eA
    have hx3 := s3 _ _ hx
    have xA : x ∉ A.foot := notin hx frA
    try simp_arith [hx3, T.cl_Rehearsal, T.n_Rehearsal_flight]
    refine ⟨show 0 < 1000 by decide, ?_⟩
    subst hR0
    try simp_arith [upd_same, T.cl_Rehearsal, T.n_Rehearsal_deeds]
    refine ⟨by decide, fun p n_p => ?_⟩
    obtain ⟨ne, n_k⟩ := upd_none n_p
    rw [upd_ne ne.symm, upd_same]
    try simp_arith [T.cl_Rehearsal, T.n_Rehearsal_deeds]
    refine ⟨show 1 < 1000 by decide, ?_⟩
    have b : But [x] H3 (upd (upd (upd H3 x (HO.ins t.c_Rehearsal dx (putF (Str.ofString "flight") (V.ref A.p) []))) p (HO.lst [])) x (HO.ins t.c_Rehearsal dx (putF (Str.ofString "deeds") (V.ref p) (putF (Str.ofString "flight") (V.ref A.p) [])))) := fun y o e n => by
      have n1 : y ≠ x := by simpa using n
      rw [upd_ne n1, upd_ne (ne_of_none e n_k), upd_ne n1]; exact e
    refine k A p _ ⟨⟨dx, by rw [upd_same]; rfl⟩, F3.but b fun y hy z => ?_, by rw [upd_ne ne, upd_same]; rfl, rfl, fun j q dd e1 _ => by simp at e1, xA, newin F3.there n_k, ne.symm, fun q hq => nomatch hq⟩ (fun y o e n => b y o (s3 y o e) n) fun y hy => ?_
    · have : y = x := by simpa using z
      rw [this] at hy; exact xA hy
    · rcases List.mem_cons.mp hy with rfl | h
      · exact same_was s3 n_k
      · exact frA y h
inductive sp_hst (t : Adr) (vs : List V) (H : Hp) (Q : VK) (E_ : XK) : Prop
  | mk (r : Addr) (A : FA) (d : Addr) (ps : List Addr) (f : Fl) (ds : List Deed) (z0 : vs = [.ref r]) (z1 : RAt t H r A d ps f ds) (z2 : ∀ H', Same H H' → Q (.int f.high.length) H') : sp_hst t vs H Q E_
theorem sc_Rehearsal_highest : FnScope ["self"] ["self"] (defScope s_Rehearsal_highest) := ⟨rfl, rfl, rfl, by decide +kernel, rfl, by decide +kernel, by decide +kernel⟩
set_option maxHeartbeats 800000 in
theorem ok_Rehearsal_highest (T : Txt w K mg t) : FnOk P w K mg base (CXe P w) 2 t.f_Rehearsal_highest t.d_Rehearsal_highest ["self"] (sp_hst t) := by
  have G_levels := ok_levels (P := P) (w := w) (base := base) T
  refine okX T.F_Rehearsal_highest sc_Rehearsal_highest (fun vs H Q E h => ?_) (fun cdv A outer s H vs Q E hr h => ?_)
  · obtain ⟨r, A, d, ps, f, ds, rfl, _⟩ := h; rfl
  · obtain ⟨r, A, d, ps, f, ds, rfl, R, k⟩ := h
    obtain ⟨dx, e⟩ := R.ob
    obtain ⟨⟨dy, f1⟩, _⟩ := id R.fl
    refine ⟨_, (pss_one (ps_ret (pe_callB cu_len rfl T.z_len PySem.boot_len (pa_cons (eu_meth0 (eu_fldK (K := K) rfl (pu 0)) T.cl T.m_levels G_levels (hr.mono (by decide)) T.b_levels passB) pa_nil)))), ?_⟩
    try simp_arith [e, T.cl_Rehearsal, T.n_Rehearsal_flight, rh_fl, f1, fn_summit, fn_is_chamber, fn_can_give, fn_can_take, fn_give, fn_take, fn_let, fn_levels, fn_drawn, fn_out, fn_boats, fn_waiting, fn_through, fn_side, fn_place, fn_come, fn_sail, fn_is_level, fn_leave, fn_enter]
    refine ⟨A, f, rfl, R.fl, fun l n_l => ?_⟩
    have s1 := same_new (o := HO.lst (bls f.high)) n_l
    have sm_H1 := same_new (o := HO.lst (bls f.high)) n_l
    have e_l : upd H l (HO.lst (bls f.high)) l = some (HO.lst (bls f.high)) := upd_same
    generalize upd H l (HO.lst (bls f.high)) = H1 at *
    try simp_arith [e_l, len_bls]
    exact k _ s1
inductive sp_ish (t : Adr) (vs : List V) (H : Hp) (Q : VK) (E_ : XK) : Prop
  | mk (r : Addr) (A : FA) (d : Addr) (ps : List Addr) (f : Fl) (ds : List Deed) (c : Nat) (z0 : vs = [.ref r, .int (c : Int)]) (z1 : RAt t H r A d ps f ds) (z2 : 1 ≤ c) (z3 : c ≤ f.high.length) (z4 : ∀ H', Same H H' → Q (.bl (f.hi (c - 1))) H') : sp_ish t vs H Q E_
theorem sc_Rehearsal_is_high : FnScope ["self", "chamber"] ["self", "chamber"] (defScope s_Rehearsal_is_high) := ⟨rfl, rfl, rfl, by decide +kernel, rfl, by decide +kernel, by decide +kernel⟩
set_option maxHeartbeats 800000 in
theorem ok_Rehearsal_is_high (T : Txt w K mg t) : FnOk P w K mg base (CXe P w) 2 t.f_Rehearsal_is_high t.d_Rehearsal_is_high ["self", "chamber"] (sp_ish t) := by
  have G_levels := ok_levels (P := P) (w := w) (base := base) T
  refine okX T.F_Rehearsal_is_high sc_Rehearsal_is_high (fun vs H Q E h => ?_) (fun cdv A outer s H vs Q E hr h => ?_)
  · obtain ⟨r, A, d, ps, f, ds, c, rfl, _⟩ := h; rfl
  · obtain ⟨r, A, d, ps, f, ds, c, rfl, R, c1, c2, k⟩ := h
    obtain ⟨dx, e⟩ := R.ob
    obtain ⟨⟨dy, f1⟩, _⟩ := id R.fl
    refine ⟨_, (pss_one (ps_ret (eu_ix xu_seq (eu_meth0 (eu_fldK (K := K) rfl (pu 0)) T.cl T.m_levels G_levels (hr.mono (by decide)) T.b_levels passB) (pe_op ou_sub (pu 1) pe_int)))), ?_⟩
    try simp_arith [e, T.cl_Rehearsal, T.n_Rehearsal_flight, rh_fl, f1, fn_summit, fn_is_chamber, fn_can_give, fn_can_take, fn_give, fn_take, fn_let, fn_levels, fn_drawn, fn_out, fn_boats, fn_waiting, fn_through, fn_side, fn_place, fn_come, fn_sail, fn_is_level, fn_leave, fn_enter]
    refine ⟨A, f, rfl, R.fl, fun l n_l => ?_⟩
    have s1 := same_new (o := HO.lst (bls f.high)) n_l
    have sm_H1 := same_new (o := HO.lst (bls f.high)) n_l
    have e_l : upd H l (HO.lst (bls f.high)) l = some (HO.lst (bls f.high)) := upd_same
    generalize upd H l (HO.lst (bls f.high)) = H1 at *
    try simp_arith [e_l]
    rw [at_bls (by omega) (by omega), show ((c : Int) - 1).toNat = c - 1 by omega]
    try simp_arith [true_and]
    exact k _ s1
inductive sp_rlet (t : Adr) (vs : List V) (H : Hp) (Q : VK) (E_ : XK) : Prop
  | mk (r : Addr) (A : FA) (d : Addr) (ps : List Addr) (f : Fl) (ds : List Deed) (g : Int) (z0 : vs = [.ref r, .int g]) (z1 : RAt t H r A d ps f ds) (z2 : ds.length ≤ 5000) (z3 : letOut f.high g = .done) (z4 : ∀ H' ps', RAt t H' r A d ps' (f.let g) (ds ++ [.let g]) → But (d :: A.foot) H H' → Q .non H') : sp_rlet t vs H Q E_
theorem sc_Rehearsal_let : FnScope ["self", "gate"] ["self", "gate"] (defScope s_Rehearsal_let) := ⟨rfl, rfl, rfl, by decide +kernel, rfl, by decide +kernel, by decide +kernel⟩
set_option maxHeartbeats 800000 in
theorem ok_Rehearsal_let (T : Txt w K mg t) : FnOk P w K mg base (CXe P w) 5 t.f_Rehearsal_let t.d_Rehearsal_let ["self", "gate"] (sp_rlet t) := by
  have G_let := ok_let (P := P) (w := w) (base := base) T
  refine okX T.F_Rehearsal_let sc_Rehearsal_let (fun vs H Q E h => ?_) (fun cdv A outer s H vs Q E hr h => ?_)
  · obtain ⟨r, A, d, ps, f, ds, g, rfl, _⟩ := h; rfl
  · obtain ⟨r, A, d, ps, f, ds, g, rfl, R, hz, dn, k⟩ := h
    obtain ⟨dx, e⟩ := R.ob
    obtain ⟨⟨dy, f1⟩, _⟩ := id R.fl
    refine ⟨_, (pss_cons (ps_expr (eu_meth (eu_fldK (K := K) rfl (pu 0)) T.cl T.m_let G_let (hr.mono (by decide)) T.b_let passB (pa_cons (pu 1) pa_nil)))
 (pss_one (ps_expr (eu_lm PySem.F.slot_list_append PySem.F.type_list_append mu_append (eu_fldK (K := K) rfl (pu 0)) (pa_cons (pe_tup (pa_cons pe_str (pa_cons (pu 1) pa_nil))) pa_nil))))), ?_⟩
    refine seqG fun R0 hR0 => ?_
    try simp_arith [e, T.cl_Rehearsal, T.n_Rehearsal_flight, rh_fl, f1, fn_summit, fn_is_chamber, fn_can_give, fn_can_take, fn_give, fn_take, fn_let, fn_levels, fn_drawn, fn_out, fn_boats, fn_waiting, fn_through, fn_side, fn_place, fn_come, fn_sail, fn_is_level, fn_leave, fn_enter]
    refine ⟨A, f, g, rfl, R.fl, ?_⟩
    rw [dn]
    intro H1 F1 b1
    have R1 := R.flt F1 b1
    obtain ⟨dx1, e1⟩ := R1.ob
    have dl1 := R1.dl
    subst hR0
    try simp_arith [e1, T.cl_Rehearsal, T.n_Rehearsal_deeds, rh_dd]
    rw [dl1]
    refine ⟨trivial, by decide, fun p n_p => ?_⟩
    rw [upd_ne (ne_of_none dl1 n_p), dl1]
    try dsimp only
    obtain ⟨R2, b2⟩ := R1.deed (.let g) n_p
    refine ⟨by rw [List.length_map, R.ln]; exact Nat.lt_of_le_of_lt hz (by decide), k _ _ R2 ((b1.mono fun y hy => List.mem_cons_of_mem _ hy).trans b2)⟩
inductive sp_rsail (t : Adr) (vs : List V) (H : Hp) (Q : VK) (E_ : XK) : Prop
  | mk (r : Addr) (A : FA) (d : Addr) (ps : List Addr) (f : Fl) (ds : List Deed) (b here : Int) (z0 : vs = [.ref r, .int b]) (z1 : RAt t H r A d ps f ds) (z2 : ds.length ≤ 5000) (z3 : WF f) (z4 : f.place? b = some here) (z5 : f.sailOut b = .done) (z6 : ∀ H' ps', RAt t H' r A d ps' (f.sail b here) (ds ++ [.sail b]) → But (d :: A.foot) H H' → Q .non H') : sp_rsail t vs H Q E_
theorem sc_Rehearsal_sail : FnScope ["self", "boat"] ["self", "boat"] (defScope s_Rehearsal_sail) := ⟨rfl, rfl, rfl, by decide +kernel, rfl, by decide +kernel, by decide +kernel⟩
set_option maxHeartbeats 800000 in
theorem ok_Rehearsal_sail (T : Txt w K mg t) : FnOk P w K mg base (CXe P w) 6 t.f_Rehearsal_sail t.d_Rehearsal_sail ["self", "boat"] (sp_rsail t) := by
  have G_sail := ok_sail (P := P) (w := w) (base := base) T
  refine okX T.F_Rehearsal_sail sc_Rehearsal_sail (fun vs H Q E h => ?_) (fun cdv A outer s H vs Q E hr h => ?_)
  · obtain ⟨r, A, d, ps, f, ds, b, here, rfl, _⟩ := h; rfl
  · obtain ⟨r, A, d, ps, f, ds, b, here, rfl, R, hz, hw, pl, dn, k⟩ := h
    obtain ⟨dx, e⟩ := R.ob
    obtain ⟨⟨dy, f1⟩, _⟩ := id R.fl
    refine ⟨_, (pss_cons (ps_expr (eu_meth (eu_fldK (K := K) rfl (pu 0)) T.cl T.m_sail G_sail (hr.mono (by decide)) T.b_sail passB (pa_cons (pu 1) pa_nil)))
 (pss_one (ps_expr (eu_lm PySem.F.slot_list_append PySem.F.type_list_append mu_append (eu_fldK (K := K) rfl (pu 0)) (pa_cons (pe_tup (pa_cons pe_str (pa_cons (pu 1) pa_nil))) pa_nil))))), ?_⟩
    refine seqG fun R0 hR0 => ?_
    try simp_arith [e, T.cl_Rehearsal, T.n_Rehearsal_flight, rh_fl, f1, fn_summit, fn_is_chamber, fn_can_give, fn_can_take, fn_give, fn_take, fn_let, fn_levels, fn_drawn, fn_out, fn_boats, fn_waiting, fn_through, fn_side, fn_place, fn_come, fn_sail, fn_is_level, fn_leave, fn_enter]
    refine ⟨A, f, b, rfl, R.fl, hw, ?_⟩
    rw [dn]
    intro H1 here' hp F1 b1
    rw [pl] at hp
    cases hp
    have R1 := R.flt F1 b1
    obtain ⟨dx1, e1⟩ := R1.ob
    have dl1 := R1.dl
    subst hR0
    try simp_arith [e1, T.cl_Rehearsal, T.n_Rehearsal_deeds, rh_dd]
    rw [dl1]
    refine ⟨trivial, by decide, fun p n_p => ?_⟩
    rw [upd_ne (ne_of_none dl1 n_p), dl1]
    try dsimp only
    obtain ⟨R2, b2⟩ := R1.deed (.sail b) n_p
    refine ⟨by rw [List.length_map, R.ln]; exact Nat.lt_of_le_of_lt hz (by decide), k _ _ R2 ((b1.mono fun y hy => List.mem_cons_of_mem _ hy).trans b2)⟩
inductive sp_mh (t : Adr) (m : Nat) (vs : List V) (H : Hp) (Q : VK) (E_ : XK) : Prop
  | mk (r : Addr) (A : FA) (d : Addr) (ps : List Addr) (f : Fl) (ds : List Deed) (c : Nat) (z0 : vs = [.ref r, .int (c : Int)]) (z1 : RAt t H r A d ps f ds) (z2 : 1 ≤ c) (z3 : c ≤ f.high.length + 1) (z4 : f.high.length + 2 = m + c) (z5 : f.high.length ≤ 8) (z6 : ds.length + m ≤ 5000) (z7 : ∀ H' ps' f' ds', RAt t H' r A d ps' f' (ds ++ ds') → Run f ds' f' → MH f f' c → ds'.length ≤ m → But (d :: A.foot) H H' → Q .non H') : sp_mh t m vs H Q E_
theorem sc_Rehearsal_make_high : FnScope ["self", "chamber"] ["self", "chamber"] (defScope s_Rehearsal_make_high) := ⟨rfl, rfl, rfl, by decide +kernel, rfl, by decide +kernel, by decide +kernel⟩
set_option maxHeartbeats 800000 in
theorem ok_mh_one (T : Txt w K mg t) {m : Nat} (G_Rehearsal_make_high : FnOk P w K mg base (CXe P w) (m + 7) t.f_Rehearsal_make_high t.d_Rehearsal_make_high ["self", "chamber"] (sp_mh t m)) :
    FnOk P w K mg base (CXe P w) (m + 8) t.f_Rehearsal_make_high t.d_Rehearsal_make_high ["self", "chamber"] (sp_mh t (m + 1)) := by
  have G_Rehearsal_highest := ok_Rehearsal_highest (P := P) (w := w) (base := base) T
  have G_Rehearsal_is_high := ok_Rehearsal_is_high (P := P) (w := w) (base := base) T
  have G_Rehearsal_let := ok_Rehearsal_let (P := P) (w := w) (base := base) T
  refine okX T.F_Rehearsal_make_high sc_Rehearsal_make_high (fun vs H Q E h => ?_) (fun cdv A outer s H vs Q E hr h => ?_)
  · obtain ⟨r, A, d, ps, f, ds, c, rfl, _⟩ := h; rfl
  · obtain ⟨r, A, d, ps, f, ds, c, rfl, R, c1, c2, em, n8, hz, k⟩ := h
    obtain ⟨dx, e⟩ := R.ob
    have stay : ∀ H', Same H H' → f.high.length < c ∨ f.hi (c - 1) = true → Q .non H' := fun H' s' h => k H' ps f [] (by rw [List.append_nil]; exact R.same s') .nil (MH.stay h) (Nat.zero_le _) (But.same s')
    refine ⟨_, (pss_one (ps_if (PW.pt (pw_and (tu_cmp ou_le (pu 1) (eu_meth0 (pu 0) T.cl_Rehearsal T.m_Rehearsal_highest G_Rehearsal_highest (hr.mono (by omega)) T.b_Rehearsal_highest passB) (nomark _)) (pw_and1 (pt_not (tu_val (eu_meth (pu 0) T.cl_Rehearsal T.m_Rehearsal_is_high G_Rehearsal_is_high (hr.mono (by omega)) T.b_Rehearsal_is_high passB (pa_cons (pu 1) pa_nil))))))) (pss_cons (ps_expr (eu_meth (pu 0) T.cl_Rehearsal T.m_Rehearsal_make_high G_Rehearsal_make_high (hr.mono (by omega)) T.b_Rehearsal_make_high passB (pa_cons (pe_op ou_add (pu 1) pe_int) pa_nil)))
 (pss_one (ps_expr (eu_meth (pu 0) T.cl_Rehearsal T.m_Rehearsal_let G_Rehearsal_let (hr.mono (by omega)) T.b_Rehearsal_let passB (pa_cons (pu 1) pa_nil))))) pss_nil)), ?_⟩
    refine ifG fun T0 U0 hT0 hU0 => ?_
    try simp_arith [e, rq_hi]
    refine ⟨r, A, d, ps, f, ds, rfl, R, fun H1 s1 => ?_⟩
    try simp_arith [true_and]
    by_cases cn : c ≤ f.high.length
    · rw [if_pos (decide_eq_true (by omega))]
      have R1 := R.same s1
      obtain ⟨dx1, e1⟩ := R1.ob
      try simp_arith [e1, rq_is]
      refine ⟨r, A, d, ps, f, ds, c, rfl, R1, c1, cn, fun H2 s2 => ?_⟩
      try simp_arith [true_and]
      cases hh : f.hi (c - 1) with
      | true =>
        rw [if_neg (by simp)]
        subst hU0
        exact stay _ (s1.trans s2) (.inr hh)
      | false =>
        rw [if_pos (by simp)]
        have R2 := R1.same s2
        obtain ⟨dx2, e2⟩ := R2.ob
        subst hT0
        refine seqG fun R0 hR0 => ?_
        try simp_arith [e2, rq_mh]
        refine ⟨r, A, d, ps, f, ds, c + 1, by simp, R2, by omega, by omega, by omega, n8, by omega, fun H3 ps3 f3 ds3 R3 r3 m3 l3 b3 => ?_⟩
        obtain ⟨dn, mm⟩ := MH.step c1 cn hh m3
        obtain ⟨dx3, e3⟩ := R3.ob
        subst hR0
        try simp_arith [e3, rq_let]
        refine ⟨r, A, d, ps3, f3, ds ++ ds3, (c : Int), rfl, R3, by rw [List.length_append]; omega, dn, fun H4 ps4 R4 b4 => ?_⟩
        exact k H4 ps4 _ (ds3 ++ [.let (c : Int)]) (by rw [← List.append_assoc]; exact R4) (r3.let1 dn) mm (by rw [List.length_append]; simp; omega) (((But.same (s1.trans s2)).trans b3).trans b4)
    · rw [if_neg (fun z => cn (by have := of_decide_eq_true z; omega))]
      subst hU0
      exact stay _ s1 (.inl (by omega))
theorem ok_mh (T : Txt w K mg t) : ∀ m, FnOk P w K mg base (CXe P w) (m + 7) t.f_Rehearsal_make_high t.d_Rehearsal_make_high ["self", "chamber"] (sp_mh t m)
  | 0 => ⟨fun vs H Q E h => by obtain ⟨r, A, d, ps, f, ds, c, rfl, _⟩ := h; rfl, fun A outer s H args us vs Q E hr he hb hv h => by obtain ⟨r, A, d, ps, f, ds, c, rfl, R, c1, c2, em, _⟩ := h; omega⟩
  | m + 1 => ok_mh_one T (ok_mh T m)
inductive sp_ml (t : Adr) (m : Nat) (vs : List V) (H : Hp) (Q : VK) (E_ : XK) : Prop
  | mk (r : Addr) (A : FA) (d : Addr) (ps : List Addr) (f : Fl) (ds : List Deed) (c : Nat) (z0 : vs = [.ref r, .int (c : Int)]) (z1 : RAt t H r A d ps f ds) (z2 : c ≤ f.high.length) (z3 : c + 1 = m) (z4 : f.high.length ≤ 8) (z5 : ds.length + m ≤ 5000) (z6 : ∀ H' ps' f' ds', RAt t H' r A d ps' f' (ds ++ ds') → Run f ds' f' → ML f f' c → ds'.length ≤ m → But (d :: A.foot) H H' → Q .non H') : sp_ml t m vs H Q E_
theorem sc_Rehearsal_make_low : FnScope ["self", "chamber"] ["self", "chamber"] (defScope s_Rehearsal_make_low) := ⟨rfl, rfl, rfl, by decide +kernel, rfl, by decide +kernel, by decide +kernel⟩
set_option maxHeartbeats 800000 in
theorem ok_ml_one (T : Txt w K mg t) {m : Nat} (G_Rehearsal_make_low : FnOk P w K mg base (CXe P w) (m + 7) t.f_Rehearsal_make_low t.d_Rehearsal_make_low ["self", "chamber"] (sp_ml t m)) :
    FnOk P w K mg base (CXe P w) (m + 8) t.f_Rehearsal_make_low t.d_Rehearsal_make_low ["self", "chamber"] (sp_ml t (m + 1)) := by
  have G_Rehearsal_is_high := ok_Rehearsal_is_high (P := P) (w := w) (base := base) T
  have G_Rehearsal_let := ok_Rehearsal_let (P := P) (w := w) (base := base) T
  refine okX T.F_Rehearsal_make_low sc_Rehearsal_make_low (fun vs H Q E h => ?_) (fun cdv A outer s H vs Q E hr h => ?_)
  · obtain ⟨r, A, d, ps, f, ds, c, rfl, _⟩ := h; rfl
  · obtain ⟨r, A, d, ps, f, ds, c, rfl, R, c2, em, n8, hz, k⟩ := h
    obtain ⟨dx, e⟩ := R.ob
    have stay : ∀ H', Same H H' → c = 0 ∨ f.hi (c - 1) = false → Q .non H' := fun H' s' h => k H' ps f [] (by rw [List.append_nil]; exact R.same s') .nil (ML.stay h) (Nat.zero_le _) (But.same s')
    refine ⟨_, (pss_one (ps_if (PW.pt (pw_and (tu_cmp ou_gt (pu 1) pe_int (nomark _)) (pw_and1 (tu_val (eu_meth (pu 0) T.cl_Rehearsal T.m_Rehearsal_is_high G_Rehearsal_is_high (hr.mono (by omega)) T.b_Rehearsal_is_high passB (pa_cons (pu 1) pa_nil)))))) (pss_cons (ps_expr (eu_meth (pu 0) T.cl_Rehearsal T.m_Rehearsal_make_low G_Rehearsal_make_low (hr.mono (by omega)) T.b_Rehearsal_make_low passB (pa_cons (pe_op ou_sub (pu 1) pe_int) pa_nil)))
 (pss_one (ps_expr (eu_meth (pu 0) T.cl_Rehearsal T.m_Rehearsal_let G_Rehearsal_let (hr.mono (by omega)) T.b_Rehearsal_let passB (pa_cons (pe_op ou_sub (pu 1) pe_int) pa_nil))))) pss_nil)), ?_⟩
    refine ifG fun T0 U0 hT0 hU0 => ?_
    try simp_arith [e, rq_is]
    by_cases c0 : 0 < c
    · rw [if_pos (decide_eq_true (by omega))]
      refine ⟨r, A, d, ps, f, ds, c, rfl, R, c0, c2, fun H2 s2 => ?_⟩
      try simp_arith [true_and]
      cases hh : f.hi (c - 1) with
      | false =>
        rw [if_neg (by simp)]
        subst hU0
        exact stay _ s2 (.inr hh)
      | true =>
        rw [if_pos rfl]
        have R2 := R.same s2
        obtain ⟨dx2, e2⟩ := R2.ob
        subst hT0
        refine seqG fun R0 hR0 => ?_
        try simp_arith [e2, rq_ml]
        refine ⟨r, A, d, ps, f, ds, c - 1, by congr 2; congr 1; omega, R2, by omega, by omega, n8, by omega, fun H3 ps3 f3 ds3 R3 r3 m3 l3 b3 => ?_⟩
        obtain ⟨dn, mm⟩ := ML.step c0 c2 hh m3
        obtain ⟨dx3, e3⟩ := R3.ob
        subst hR0
        try simp_arith [e3, rq_let]
        refine ⟨r, A, d, ps3, f3, ds ++ ds3, (c : Int) - 1, rfl, R3, by rw [List.length_append]; omega, dn, fun H4 ps4 R4 b4 => ?_⟩
        exact k H4 ps4 _ (ds3 ++ [.let ((c : Int) - 1)]) (by rw [← List.append_assoc]; exact R4) (r3.let1 dn) mm (by rw [List.length_append]; simp; omega) (((But.same s2).trans b3).trans b4)
    · rw [if_neg (fun z => c0 (by have := of_decide_eq_true z; omega))]
      subst hU0
      exact stay _ (Same.refl _) (.inl (by omega))
theorem ok_ml (T : Txt w K mg t) : ∀ m, FnOk P w K mg base (CXe P w) (m + 7) t.f_Rehearsal_make_low t.d_Rehearsal_make_low ["self", "chamber"] (sp_ml t m)
  | 0 => ⟨fun vs H Q E h => by obtain ⟨r, A, d, ps, f, ds, c, rfl, _⟩ := h; rfl, fun A outer s H args us vs Q E hr he hb hv h => by obtain ⟨r, A, d, ps, f, ds, c, rfl, R, c2, em, _⟩ := h; omega⟩
  | m + 1 => ok_ml_one T (ok_ml T m)
inductive SpAny (sp : Nat → Sp) (b : Nat) (vs : List V) (H : Hp) (Q : VK) (E : XK) : Prop
  | mk (m : Nat) (hm : m ≤ b) (h : sp m vs H Q E)
theorem ok_any {CX : CXT} {f : Addr} {fd : FuncData} {ps : List Str} {sp : Nat → Sp} {c : Nat} (F : ∀ m, FnOk P w K mg base CX (m + c) f fd ps (sp m)) (b : Nat) : FnOk P w K mg base CX (b + c) f fd ps (SpAny sp b) :=
  ⟨fun vs H Q E ⟨m, hm, h⟩ => (F m).len vs H Q E h, fun A outer s H args us vs Q E hr he hb hv ⟨m, hm, h⟩ => (F m).run A outer s H args us vs Q E (hr.mono (by omega)) he hb hv h⟩
theorem ok_Rehearsal_make_high (T : Txt w K mg t) : FnOk P w K mg base (CXe P w) 17 t.f_Rehearsal_make_high t.d_Rehearsal_make_high ["self", "chamber"] (SpAny (sp_mh t) 10) := ok_any (fun m => ok_mh T m) 10
theorem ok_Rehearsal_make_low (T : Txt w K mg t) : FnOk P w K mg base (CXe P w) 17 t.f_Rehearsal_make_low t.d_Rehearsal_make_low ["self", "chamber"] (SpAny (sp_ml t) 10) := ok_any (fun m => ok_ml T m) 10
end
theorem wait_side {S : List Bool} {d : Bool} {i : Nat} {b : Int} (h : b ∈ wait S d i) : S.getD b.toNat false = d := by
  unfold wait at h
  obtain ⟨j, hj, rfl⟩ := List.mem_map.mp h
  have := (List.mem_filter.mp hj).2
  simpa using this
theorem wf_mk {f : Fl} {S : List Bool} {i j : Nat} (sd : f.sides = S) (hu : f.up = wait S false i) (hd : f.down = wait S true j) (hi : ∀ b, some b ∈ f.inside → 0 ≤ b ∧ b < (S.length : Int)) (len : f.inside.length = f.high.length) (n8 : f.high.length ≤ 8) (g : f.gone.length ≤ 1000) : WF f := by
  refine ⟨len, fun b hb => ?_, fun b hb => ?_, fun b hb => by rw [sd]; exact hi b hb, by omega, g⟩
  · rw [hu] at hb
    have := wait_ge hb
    exact ⟨by rw [sd]; omega, by unfold Fl.side; rw [sd]; exact wait_side hb⟩
  · rw [hd] at hb
    have := wait_ge hb
    exact ⟨by rw [sd]; omega, by unfold Fl.side; rw [sd]; exact wait_side hb⟩
theorem wf_wt {f f1 : Fl} (h : WF f) (m : Wt f f1) : WF f1 := by
  refine ⟨by rw [m.ins, m.ln]; exact h.len, fun b hb => ?_, fun b hb => ?_, fun b hb => ?_, by rw [m.ln]; exact h.sz, by rw [m.gn]; exact h.gz⟩
  · rw [m.up] at hb; have := h.up b hb; unfold Fl.side at *; rw [m.sd]; exact this
  · rw [m.dn] at hb; have := h.dn b hb; unfold Fl.side at *; rw [m.sd]; exact this
  · rw [m.ins] at hb; rw [m.sd]; exact h.ins b hb
theorem nums_len (i : Nat) : (nums i).length = i := by unfold nums; simp
theorem Pl.wf {h0 S : List Bool} {f : Fl} {i : Nat} (p : Pl h0 S f i) (n8 : h0.length ≤ 8) (hi : i ≤ 1000) : WF f :=
  wf_mk p.sd p.up p.dn (fun b hb => by rw [p.ins] at hb; have := List.eq_of_mem_replicate hb; cases this) (by rw [p.ins, p.len, List.length_replicate]) (by rw [p.len]; exact n8) (by rw [p.gn, nums_len]; exact hi)
theorem mem_inC {n c : Nat} {b x : Int} (h : some x ∈ inC n b c) : x = b := by
  unfold inC at h
  rcases List.mem_or_eq_of_mem_set h with z | z
  · have := List.eq_of_mem_replicate z; cases this
  · cases z; rfl
theorem UI.wf {h0 S : List Bool} {f0 f : Fl} {i c : Nat} (p : Pl h0 S f0 i) (hi : i < S.length) (u : UI f0 f (i : Int) c (wait S false (i + 1))) (n8 : h0.length ≤ 8) (hz : i ≤ 1000) : WF f :=
  wf_mk (u.sd.trans p.sd) u.up (u.dn.trans p.dn) (fun b hb => by rw [u.inc.ins] at hb; have := mem_inC hb; omega) (by rw [u.inc.ins, inC_len]) (by rw [u.ln, p.len]; exact n8) (by rw [u.gn, p.gn, nums_len]; exact hz)
theorem DI.wf {h0 S : List Bool} {f0 f : Fl} {i c : Nat} (p : Pl h0 S f0 i) (hi : i < S.length) (u : DI f0 f (i : Int) c (wait S true (i + 1))) (n8 : h0.length ≤ 8) (hz : i ≤ 1000) : WF f :=
  wf_mk (u.sd.trans p.sd) (u.up.trans p.up) u.dn (fun b hb => by rw [u.inc.ins] at hb; have := mem_inC hb; omega) (by rw [u.inc.ins, inC_len]) (by rw [u.ln, p.len]; exact n8) (by rw [u.gn, p.gn, nums_len]; exact hz)
theorem for_rng2 {tt : TA} {g : TG} {tb : TS} {D : Ends} {σ : St} {H : Hp} (i0 j0 : Int) (Pv : Nat → St → Hp → Prop) (ht : ∀ Q : List V → Hp → Prop, (∀ H1, Same H H1 → Q [.int i0, .int j0] H1) → tt σ H Q) (hb : 0 ≤ i0 ∧ i0 ≤ 1000 ∧ 0 ≤ j0 ∧ j0 ≤ 1000) (h0 : ∀ H1, Same H H1 → Pv 0 σ H1)
    (hs : ∀ i σ H, i < (j0 - i0).toNat → Pv i σ H → g (.int (i0 + i)) σ H fun σ2 H2 => tb { D with nx := Pv (i + 1), ct := Pv (i + 1), bk := D.nx } σ2 H2) (hd : ∀ σ H, Pv (j0 - i0).toNat σ H → D.nx σ H) : tFor (iRng2 tt) g tb D σ H := by
  unfold tFor iRng2
  exact ht _ fun H1 s1 => ⟨i0, j0, rfl, ⟨by omega, by omega, by omega, by omega⟩, for_range Pv (h0 H1 s1) hs hd⟩
theorem for_rngD {tt : TA} {g : TG} {tb : TS} {D : Ends} {σ : St} {H : Hp} (i0 : Int) (Pv : Nat → St → Hp → Prop) (ht : ∀ Q : List V → Hp → Prop, (∀ H1, Same H H1 → Q [.int i0, .int 0, .int (-1)] H1) → tt σ H Q) (hb : 0 ≤ i0 ∧ i0 ≤ 1000) (h0 : ∀ H1, Same H H1 → Pv 0 σ H1)
    (hs : ∀ i σ H, i < i0.toNat → Pv i σ H → g (.int (i0 - i)) σ H fun σ2 H2 => tb { D with nx := Pv (i + 1), ct := Pv (i + 1), bk := D.nx } σ2 H2) (hd : ∀ σ H, Pv i0.toNat σ H → D.nx σ H) : tFor (iRngD tt) g tb D σ H := by
  unfold tFor iRngD
  exact ht _ fun H1 s1 => ⟨i0, 0, rfl, ⟨by omega, by omega, by omega⟩, for_down Pv (h0 H1 s1) (by rw [Int.sub_zero]; exact hs) (by rw [Int.sub_zero]; exact hd)⟩
inductive Pu (t : Adr) (r : Addr) (A : FA) (d : Addr) (h0 S : List Bool) (f : Fl) (ds : List Deed) (i : Nat) (H : Hp) (k : Nat) (σ : St) (H' : Hp) : Prop
  | mk (ps' : List Addr) (f' : Fl) (ds' : List Deed) (v2 : Option V) (eσ : σ = [some (.ref r), some (.int (i : Int)), v2]) (R : RAt t H' r A d ps' f' (ds ++ ds')) (rn : Run f ds' f') (ln : ds'.length ≤ 3 + 10 * k) (b : But (d :: A.foot) H H') (u : k < h0.length → UI f f' (i : Int) (k + 1) (wait S false (i + 1))) (e : k = h0.length → Pl h0 S f' (i + 1))
inductive Pd (t : Adr) (r : Addr) (A : FA) (d : Addr) (h0 S : List Bool) (f : Fl) (ds : List Deed) (i : Nat) (H : Hp) (k : Nat) (σ : St) (H' : Hp) : Prop
  | mk (ps' : List Addr) (f' : Fl) (ds' : List Deed) (v2 : Option V) (eσ : σ = [some (.ref r), some (.int (i : Int)), v2]) (R : RAt t H' r A d ps' f' (ds ++ ds')) (rn : Run f ds' f') (ln : ds'.length ≤ 3 + 10 * k) (b : But (d :: A.foot) H H') (u : k < h0.length → DI f f' (i : Int) (h0.length - k) (wait S true (i + 1))) (e : k = h0.length → Pl h0 S f' (i + 1))
section
variable {P : Program} {w : World} {K : PySem.W.Frag} {mg : Str → Option Value} {base : Heap} {t : Adr}
inductive sp_bu (t : Adr) (sd : Bool) (vs : List V) (H : Hp) (Q : VK) (E_ : XK) : Prop
  | mk (r : Addr) (A : FA) (d : Addr) (ps : List Addr) (f : Fl) (ds : List Deed) (h0 S : List Bool) (i : Nat) (z0 : vs = [.ref r, .int (i : Int)]) (z1 : RAt t H r A d ps f ds) (z2 : Pl h0 S f i) (z3 : i < S.length) (z4 : S.getD i false = sd) (z5 : h0.length ≤ 8) (z6 : i ≤ 1000) (z7 : ds.length ≤ 4000) (z8 : ∀ H' ps' f' ds', RAt t H' r A d ps' f' (ds ++ ds') → Run f ds' f' → Pl h0 S f' (i + 1) → ds'.length ≤ 100 → But (d :: A.foot) H H' → Q .non H') : sp_bu t sd vs H Q E_
theorem sc_Rehearsal_bring_up : FnScope ["self", "boat", "chamber"] ["self", "boat"] (defScope s_Rehearsal_bring_up) := ⟨rfl, rfl, rfl, by decide +kernel, rfl, by decide +kernel, by decide +kernel⟩
set_option maxHeartbeats 800000 in
theorem ok_Rehearsal_bring_up (T : Txt w K mg t) : FnOk P w K mg base (CXe P w) 18 t.f_Rehearsal_bring_up t.d_Rehearsal_bring_up ["self", "boat"] (sp_bu t false) := by
  have G_Rehearsal_highest := ok_Rehearsal_highest (P := P) (w := w) (base := base) T
  have G_Rehearsal_make_low := ok_Rehearsal_make_low (P := P) (w := w) (base := base) T
  have G_Rehearsal_make_high := ok_Rehearsal_make_high (P := P) (w := w) (base := base) T
  have G_Rehearsal_sail := ok_Rehearsal_sail (P := P) (w := w) (base := base) T
  refine okX T.F_Rehearsal_bring_up sc_Rehearsal_bring_up (fun vs H Q E h => ?_) (fun cdv A outer s H vs Q E hr h => ?_)
  · obtain ⟨r, A, d, ps, f, ds, h0, S, i, rfl, _⟩ := h; rfl
  · obtain ⟨r, A, d, ps, f, ds, h0, S, i, rfl, R, p, hi, hs, n8, iz, hz, k⟩ := h
    have pl := p.len
    have n1 := p.n1
    obtain ⟨dx, e⟩ := R.ob
    refine ⟨_, (pss_cons (ps_expr (eu_meth (pu 0) T.cl_Rehearsal T.m_Rehearsal_make_low G_Rehearsal_make_low (hr.mono (by decide)) T.b_Rehearsal_make_low passB (pa_cons pe_int pa_nil)))
 (pss_cons (ps_expr (eu_meth (pu 0) T.cl_Rehearsal T.m_Rehearsal_sail G_Rehearsal_sail (hr.mono (by decide)) T.b_Rehearsal_sail passB (pa_cons (pu 1) pa_nil)))
 (pss_one (ps_for ownB rfl (pi_range2 rfl T.z_range (pa_cons pe_int (pa_cons (pe_op ou_add (eu_meth0 (pu 0) T.cl_Rehearsal T.m_Rehearsal_highest G_Rehearsal_highest (hr.mono (by decide)) T.b_Rehearsal_highest passB) pe_int) pa_nil))) (pg_name (i := 2) sc_Rehearsal_bring_up.nd rfl (Or.inl rfl)) (pss_cons (ps_expr (eu_meth (pu 0) T.cl_Rehearsal T.m_Rehearsal_make_high G_Rehearsal_make_high (hr.mono (by decide)) T.b_Rehearsal_make_high passB (pa_cons (pu 2) pa_nil)))
 (pss_one (ps_expr (eu_meth (pu 0) T.cl_Rehearsal T.m_Rehearsal_sail G_Rehearsal_sail (hr.mono (by decide)) T.b_Rehearsal_sail passB (pa_cons (pu 1) pa_nil))))))))), ?_⟩
    refine seqG fun R0 hR0 => ?_
    try simp_arith [e, rq_ml]
    refine ⟨2, by decide, r, A, d, ps, f, ds, 1, rfl, R, by omega, rfl, by omega, by omega, fun H1 ps1 f1 ds1 R1 r1 m1 l1 b1 => ?_⟩
    obtain ⟨e1, e2, u1⟩ := UI.start p hi hs m1
    obtain ⟨dx1, o1⟩ := R1.ob
    subst hR0
    refine seqG fun R0 hR0 => ?_
    try simp_arith [o1, rq_sail]
    refine ⟨r, A, d, ps1, f1, ds ++ ds1, (i : Int), 0, rfl, R1, by rw [List.length_append]; omega, wf_wt (Pl.wf p n8 iz) m1.wt, e1, e2, fun H2 ps2 R2 b2 => ?_⟩
    have rn2 := r1.sail1 e1 e2
    rw [List.append_assoc] at R2
    obtain ⟨dx2, o2⟩ := R2.ob
    subst hR0
    refine for_rng2 1 ((h0.length : Int) + 1) (Pu t r A d h0 S f ds i H) (fun Q hQ => ?_) (by omega) (fun H3 s3 => ?_) ?_ ?_
    · try simp_arith [o2, rq_hi]
      refine ⟨r, A, d, ps2, _, _, rfl, R2, fun H3 s3 => ?_⟩
      try simp_arith [true_and]
      rw [u1.ln, pl]
      exact hQ _ s3
    · exact ⟨ps2, _, _, _, rfl, R2.same s3, rn2, by rw [List.length_append]; simp; omega, (b1.trans b2).trans (But.same s3), fun _ => u1, fun z => by omega⟩
    · rintro j σ H3 hj ⟨ps3, f3, ds3, v2, rfl, R3, rn3, l3, b3, u3, _⟩
      have hj' : j < h0.length := by omega
      have U3 := u3 hj'
      have ln3 : f3.high.length = h0.length := by rw [U3.ln, pl]
      obtain ⟨dx3, o3⟩ := R3.ob
      refine seqG fun R1 hR1 => ?_
      try simp_arith [o3, rq_mh]
      refine ⟨h0.length + 1 - j, by omega, r, A, d, ps3, f3, ds ++ ds3, j + 1, by simp; omega, R3, by omega, by omega, by omega, by omega, by rw [List.length_append]; omega, fun H4 ps4 f4 ds4 R4 r4 m4 l4 b4 => ?_⟩
      obtain ⟨g1, g2, g3, g4⟩ := UI.step p hi hs U3 m4
      obtain ⟨dx4, o4⟩ := R4.ob
      subst hR1
      try simp_arith [o4, rq_sail]
      refine ⟨r, A, d, ps4, f4, (ds ++ ds3) ++ ds4, (i : Int), ((j + 1 : Nat) : Int), rfl, R4, by rw [List.length_append, List.length_append]; omega, wf_wt (UI.wf p hi U3 n8 iz) m4.wt, g1, g2, fun H5 ps5 R5 b5 => ?_⟩
      rw [List.append_assoc, List.append_assoc] at R5
      exact ⟨ps5, _, _, _, rfl, R5, rn3.trans (r4.sail1 g1 g2), by rw [List.length_append, List.length_append]; simp; omega, (b3.trans b4).trans b5, fun z => g3 (by omega), fun z => g4 (by omega)⟩
    · rintro σ H3 ⟨ps3, f3, ds3, v2, rfl, R3, rn3, l3, b3, _, e3⟩
      exact k H3 ps3 f3 ds3 R3 rn3 (e3 (by omega)) (by omega) b3
theorem sc_Rehearsal_bring_down : FnScope ["self", "boat", "chamber"] ["self", "boat"] (defScope s_Rehearsal_bring_down) := ⟨rfl, rfl, rfl, by decide +kernel, rfl, by decide +kernel, by decide +kernel⟩
set_option maxHeartbeats 800000 in
theorem ok_Rehearsal_bring_down (T : Txt w K mg t) : FnOk P w K mg base (CXe P w) 18 t.f_Rehearsal_bring_down t.d_Rehearsal_bring_down ["self", "boat"] (sp_bu t true) := by
  have G_Rehearsal_highest := ok_Rehearsal_highest (P := P) (w := w) (base := base) T
  have G_Rehearsal_make_low := ok_Rehearsal_make_low (P := P) (w := w) (base := base) T
  have G_Rehearsal_make_high := ok_Rehearsal_make_high (P := P) (w := w) (base := base) T
  have G_Rehearsal_sail := ok_Rehearsal_sail (P := P) (w := w) (base := base) T
  refine okX T.F_Rehearsal_bring_down sc_Rehearsal_bring_down (fun vs H Q E h => ?_) (fun cdv A outer s H vs Q E hr h => ?_)
  · obtain ⟨r, A, d, ps, f, ds, h0, S, i, rfl, _⟩ := h; rfl
  · obtain ⟨r, A, d, ps, f, ds, h0, S, i, rfl, R, p, hi, hs, n8, iz, hz, k⟩ := h
    have pl := p.len
    have n1 := p.n1
    obtain ⟨dx, e⟩ := R.ob
    refine ⟨_, (pss_cons (ps_expr (eu_meth (pu 0) T.cl_Rehearsal T.m_Rehearsal_make_high G_Rehearsal_make_high (hr.mono (by decide)) T.b_Rehearsal_make_high passB (pa_cons (eu_meth0 (pu 0) T.cl_Rehearsal T.m_Rehearsal_highest G_Rehearsal_highest (hr.mono (by decide)) T.b_Rehearsal_highest passB) pa_nil)))
 (pss_cons (ps_expr (eu_meth (pu 0) T.cl_Rehearsal T.m_Rehearsal_sail G_Rehearsal_sail (hr.mono (by decide)) T.b_Rehearsal_sail passB (pa_cons (pu 1) pa_nil)))
 (pss_one (ps_for ownB rfl (pi_rangeD rfl T.z_range (pa_cons (eu_meth0 (pu 0) T.cl_Rehearsal T.m_Rehearsal_highest G_Rehearsal_highest (hr.mono (by decide)) T.b_Rehearsal_highest passB) (pa_cons pe_int (pa_cons (pe_un uu_neg pe_int) pa_nil)))) (pg_name (i := 2) sc_Rehearsal_bring_down.nd rfl (Or.inl rfl)) (pss_cons (ps_expr (eu_meth (pu 0) T.cl_Rehearsal T.m_Rehearsal_make_low G_Rehearsal_make_low (hr.mono (by decide)) T.b_Rehearsal_make_low passB (pa_cons (pu 2) pa_nil)))
 (pss_one (ps_expr (eu_meth (pu 0) T.cl_Rehearsal T.m_Rehearsal_sail G_Rehearsal_sail (hr.mono (by decide)) T.b_Rehearsal_sail passB (pa_cons (pu 1) pa_nil))))))))), ?_⟩
    refine seqG fun R0 hR0 => ?_
    try simp_arith [e, rq_mh, rq_hi]
    refine ⟨r, A, d, ps, f, ds, rfl, R, fun H0 s0 => ?_⟩
    have R0' := R.same s0
    refine ⟨2, by decide, r, A, d, ps, f, ds, f.high.length, rfl, R0', by omega, by omega, by omega, by omega, by omega, fun H1 ps1 f1 ds1 R1 r1 m1 l1 b1 => ?_⟩
    rw [pl] at m1
    obtain ⟨e1, e2, u1⟩ := DI.start p hi hs m1
    obtain ⟨dx1, o1⟩ := R1.ob
    subst hR0
    refine seqG fun R0 hR0 => ?_
    try simp_arith [o1, rq_sail]
    refine ⟨r, A, d, ps1, f1, ds ++ ds1, (i : Int), (h0.length : Int) + 1, rfl, R1, by rw [List.length_append]; omega, wf_wt (Pl.wf p n8 iz) m1.wt, e1, e2, fun H2 ps2 R2 b2 => ?_⟩
    have rn2 := r1.sail1 e1 e2
    rw [List.append_assoc] at R2
    obtain ⟨dx2, o2⟩ := R2.ob
    subst hR0
    refine for_rngD (h0.length : Int) (Pd t r A d h0 S f ds i H) (fun Q hQ => ?_) (by omega) (fun H3 s3 => ?_) ?_ ?_
    · try simp_arith [o2, rq_hi]
      refine ⟨r, A, d, ps2, _, _, rfl, R2, fun H3 s3 => ?_⟩
      try simp_arith [true_and]
      rw [u1.ln, pl]
      exact hQ _ s3
    · exact ⟨ps2, _, _, _, rfl, R2.same s3, rn2, by rw [List.length_append]; simp; omega, (((But.same s0).trans b1).trans b2).trans (But.same s3), fun _ => u1, fun z => by omega⟩
    · rintro j σ H3 hj ⟨ps3, f3, ds3, v2, rfl, R3, rn3, l3, b3, u3, _⟩
      have hj' : j < h0.length := by omega
      have U3 := u3 hj'
      have ln3 : f3.high.length = h0.length := by rw [U3.ln, pl]
      obtain ⟨dx3, o3⟩ := R3.ob
      refine seqG fun R1 hR1 => ?_
      try simp_arith [o3, rq_ml]
      refine ⟨h0.length - j + 1, by omega, r, A, d, ps3, f3, ds ++ ds3, h0.length - j, by congr 2; congr 1; omega, R3, by omega, rfl, by omega, by rw [List.length_append]; omega, fun H4 ps4 f4 ds4 R4 r4 m4 l4 b4 => ?_⟩
      obtain ⟨g1, g2, g3, g4⟩ := DI.step p hi hs U3 m4
      obtain ⟨dx4, o4⟩ := R4.ob
      subst hR1
      try simp_arith [o4, rq_sail]
      refine ⟨r, A, d, ps4, f4, (ds ++ ds3) ++ ds4, (i : Int), ((h0.length - j : Nat) : Int), rfl, R4, by rw [List.length_append, List.length_append]; omega, wf_wt (DI.wf p hi U3 n8 iz) m4.wt, g1, g2, fun H5 ps5 R5 b5 => ?_⟩
      rw [List.append_assoc, List.append_assoc] at R5
      exact ⟨ps5, _, _, _, rfl, R5, rn3.trans (r4.sail1 g1 g2), by rw [List.length_append, List.length_append]; simp; omega, (b3.trans b4).trans b5, fun z => by rw [show h0.length - (j + 1) = h0.length - j - 1 by omega]; exact g3 (by omega), fun z => g4 (by omega)⟩
    · rintro σ H3 ⟨ps3, f3, ds3, v2, rfl, R3, rn3, l3, b3, _, e3⟩
      exact k H3 ps3 f3 ds3 R3 rn3 (e3 (by omega)) (by omega) b3
end
theorem for_te {K : PySem.W.Frag} {te : TE} {g : TG} {tb : TS} {D : Ends} {σ : St} {H : Hp}
    (h : ∀ R : V → Hp → Prop, (∀ (a : Addr) (xs : List V) (H1 : Hp) (Pv : Nat → St → Hp → Prop), SqL K H1 a xs → Pv 0 σ H1 → (∀ i σ H, i ≤ xs.length → Pv i σ H → SqL K H a xs) → (∀ i x σ H, xs[i]? = some x → Pv i σ H → g x σ H fun σ2 H2 => tb { D with nx := Pv (i + 1), ct := Pv (i + 1), bk := D.nx } σ2 H2) → (∀ σ H, Pv xs.length σ H → D.nx σ H) → R (.ref a) H1) → te σ H R) :
    tFor (iList K te) g tb D σ H := by
  unfold tFor iList
  exact h _ fun a xs H1 Pv hq h0 hl hs hd => ⟨a, rfl, ⟨xs, hq⟩, for_list Pv h0 hl hs hd⟩
theorem for_en {K : PySem.W.Frag} {tt : TA} {g : TG} {tb : TS} {D : Ends} {σ : St} {H : Hp} (a : Addr) (xs : List V) (Pv : Nat → St → Hp → Prop) (ht : ∀ Q, tt σ H Q = Q [.ref a] H) (hq : SqL K H a xs) (h0 : Pv 0 σ H) (hl : ∀ i σ H, i ≤ xs.length → Pv i σ H → SqL K H a xs)
    (hs : ∀ i x σ H T, xs[i]? = some x → Pv i σ H → H T = none → g (.ref T) σ (upd H T (.tup [.int (i : Int), x])) fun σ2 H2 => tb { D with nx := Pv (i + 1), ct := Pv (i + 1), bk := D.nx } σ2 H2) (hd : ∀ σ H, Pv xs.length σ H → D.nx σ H) : tFor (iEnum K tt) g tb D σ H := by
  unfold tFor iEnum
  rw [ht]
  exact ⟨a, rfl, ⟨xs, hq⟩, for_enum Pv h0 hl hs hd⟩
theorem sid_get {S : List Bool} {i : Nat} {x : V} (h : (sidV S)[i]? = some x) : i < S.length ∧ x = sid (S.getD i false) := by
  unfold sidV at h
  have hi : i < S.length := by have := (List.getElem?_eq_some_iff.mp h).1; simpa using this
  rw [List.getElem?_map, List.getElem?_eq_getElem hi] at h
  refine ⟨hi, ?_⟩
  rw [List.getD_eq_getElem?_getD, List.getElem?_eq_getElem hi]
  exact (Option.some.inj h).symm
inductive Pc (t : Adr) (l o x : Addr) (A : FA) (d : Addr) (h0 S : List Bool) (H : Hp) (k : Nat) (σ : St) (H' : Hp) : Prop
  | mk (v3 v4 : Option V) (eσ : σ = [some (.ref l), some (.ref o), some (.ref x), v3, v4]) (R : RAt t H' x A d [] (comes h0 (S.take k)) []) (eo : H' o = some (.lst (sidV S))) (sm : Same H H')
inductive Pe (t : Adr) (l o x : Addr) (A : FA) (d : Addr) (h0 S : List Bool) (H : Hp) (k : Nat) (σ : St) (H' : Hp) : Prop
  | mk (ps : List Addr) (f' : Fl) (ds : List Deed) (v3 v4 : Option V) (eσ : σ = [some (.ref l), some (.ref o), some (.ref x), v3, v4]) (R : RAt t H' x A d ps f' ds) (rn : Run (comes h0 S) ds f') (p : Pl h0 S f' k) (ln : ds.length ≤ 100 * k) (eo : H' o = some (.lst (sidV S))) (sm : Same H H')
theorem same_over {H H1 H2 : Hp} {xs : List Addr} (s : Same H H1) (n : ∀ y ∈ xs, H y = none) (b : But xs H1 H2) : Same H H2 := fun y o e => b y o (s y o e) fun hy => by rw [n y hy] at e; cases e
theorem comes_row (h0 S : List Bool) (b : Bool) : ((comes h0 S).row b).length ≤ S.length := by
  rw [comes_is]
  have : ∀ d, (wait S d 0).length ≤ S.length := fun d => by
    unfold wait
    rw [List.length_map]
    exact Nat.le_trans (List.length_filter_le _ _) (by simp)
  cases b
  · exact this false
  · exact this true
section
variable {P : Program} {w : World} {K : PySem.W.Frag} {mg : Str → Option Value} {base : Heap} {t : Adr}
inductive sp_plan (t : Adr) (vs : List V) (H : Hp) (Q : VK) (E_ : XK) : Prop
  | mk (l o : Addr) (h0 S : List Bool) (z0 : vs = [.ref l, .ref o]) (z1 : H l = some (.lst (bls h0))) (z2 : H o = some (.lst (sidV S))) (z3 : 1 ≤ h0.length) (z4 : h0.length ≤ 8) (z5 : S.length ≤ 40) (z6 : ∀ (d : Addr) (ps : List Addr) (ds : List Deed) (f' : Fl) (H' : Hp), Same H H' → H d = none → Run (comes h0 S) ds f' → Pl h0 S f' S.length → ds.length ≤ 4000 → H' d = some (.lst (ps.map V.ref)) → ps.length = ds.length → (∀ (j : Nat) (p : Addr) (dd : Deed), ps[j]? = some p → ds[j]? = some dd → H' p = some (.tup (deedV dd))) → Q (.ref d) H') : sp_plan t vs H Q E_
theorem sc_plan : FnScope ["levels", "order", "rehearsal", "side", "boat"] ["levels", "order"] (defScope s_plan) := ⟨rfl, rfl, rfl, by decide +kernel, rfl, by decide +kernel, by decide +kernel⟩
set_option maxHeartbeats 800000 in
theorem ok_plan (T : Txt w K mg t) : FnOk P w K mg base (CXe P w) 20 t.f_plan t.d_plan ["levels", "order"] (sp_plan t) := by
  have G_come := ok_come (P := P) (w := w) (base := base) T
  have G_Rehearsal_init := ok_Rehearsal_init (P := P) (w := w) (base := base) T
  have G_Rehearsal_bring_up := ok_Rehearsal_bring_up (P := P) (w := w) (base := base) T
  have G_Rehearsal_bring_down := ok_Rehearsal_bring_down (P := P) (w := w) (base := base) T
  refine okX T.F_plan sc_plan (fun vs H Q E h => ?_) (fun cdv A outer s H vs Q E hr h => ?_)
  · obtain ⟨l, o, h0, S, rfl, _⟩ := h; rfl
  · obtain ⟨l, o, h0, S, rfl, el, eo, n1, n8, sz, k⟩ := h
    refine ⟨_, (pss_cons (ps_set (i := 2) sc_plan.nd rfl (Or.inl rfl) (eu_make T.mkc_Rehearsal G_Rehearsal_init (hr.mono (by decide)) rfl T.g_Rehearsal T.b_Rehearsal_init passB (pa_cons (pu 0) pa_nil)))
 (pss_cons (ps_for ownB rfl (pi_listK (K := K) rfl (pu 1)) (pg_name (i := 3) sc_plan.nd rfl (Or.inl rfl)) (pss_one (ps_expr (eu_meth (eu_fldK (K := K) rfl (pu 2)) T.cl T.m_come G_come (hr.mono (by decide)) T.b_come passB (pa_cons (pu 3) pa_nil)))))
 (pss_cons (ps_for ownB rfl (pi_enum (K := K) rfl rfl T.z_enumerate (pa_cons (pu 1) pa_nil)) (pg_tupK (K := K) rfl rfl (pgs_cons (pg_name (i := 4) sc_plan.nd rfl (Or.inl rfl)) (pgs_cons (pg_name (i := 3) sc_plan.nd rfl (Or.inl rfl)) pgs_nil))) (pss_one (ps_if (tu_cmp (ou_eq hr.units) (pu 3) pe_str (nomark _)) (pss_one (ps_expr (eu_meth (pu 2) T.cl_Rehearsal T.m_Rehearsal_bring_up G_Rehearsal_bring_up (hr.mono (by decide)) T.b_Rehearsal_bring_up passB (pa_cons (pu 4) pa_nil)))) (pss_one (ps_expr (eu_meth (pu 2) T.cl_Rehearsal T.m_Rehearsal_bring_down G_Rehearsal_bring_down (hr.mono (by decide)) T.b_Rehearsal_bring_down passB (pa_cons (pu 4) pa_nil)))))))
 (pss_one (ps_ret (eu_fldK (K := K) rfl (pu 2))))))), ?_⟩
    refine seqG fun R0 hR0 => ?_
    try simp_arith [true_and]
    intro x dx nx ndx ndxx
    have m1 : l ≠ x := ne_of_none el nx
    have m2 : l ≠ dx := ne_of_none el ndx
    refine ⟨x, l, dx, h0, rfl, upd_same, by rw [upd_ne m1, upd_ne m2]; exact el, n1, n8, fun A d H1 R1 b1 fr => ⟨rfl, ?_⟩⟩
    have s1 : Same H H1 := fun y oo e => by
      have n1 : y ≠ x := ne_of_none e nx
      have n2 : y ≠ dx := ne_of_none e ndx
      exact b1 y oo (by rw [upd_ne n1, upd_ne n2]; exact e) (by simpa using n1)
    have frH : ∀ y ∈ d :: A.foot, H y = none := fun y hy => (upd_none (upd_none (fr y hy)).2).2
    subst hR0
    refine seqG fun R0 hR0 => ?_
    refine for_te fun Rr hRr => ?_
    try simp_arith [true_and]
    refine hRr o (sidV S) H1 (Pc t l o x A d h0 S H) (.inl (.inl (s1 _ _ eo))) ⟨_, _, rfl, by rw [List.take_zero]; exact R1, s1 _ _ eo, s1⟩ (fun i σ H _ h => .inl (.inl (by obtain ⟨_, _, _, _, e, _⟩ := h; exact e))) ?_ ?_
    · rintro i v σ H2 hx ⟨v3, v4, rfl, R2, eo2, s2⟩
      obtain ⟨hi, rfl⟩ := sid_get hx
      obtain ⟨dx2, o2⟩ := R2.ob
      obtain ⟨⟨dy, f2⟩, _⟩ := id R2.fl
      try simp_arith [o2, T.cl_Rehearsal, T.n_Rehearsal_flight, rh_fl, f2, fn_summit, fn_is_chamber, fn_can_give, fn_can_take, fn_give, fn_take, fn_let, fn_levels, fn_drawn, fn_out, fn_boats, fn_waiting, fn_through, fn_side, fn_place, fn_come, fn_sail, fn_is_level, fn_leave, fn_enter]
      have cl := comes_row h0 (S.take i) (S.getD i false)
      rw [List.length_take] at cl
      refine ⟨A, _, S.getD i false, rfl, R2.fl, by rw [comes_is]; show (S.take i).length ≤ 1000; rw [List.length_take]; omega, by omega, fun H3 F3 b3 => ?_⟩
      have R3 := R2.flt F3 b3
      rw [← comes_snoc, ← take_snoc hi] at R3
      have s3 : Same H H3 := same_over s2 (fun y hy => frH y (List.mem_cons_of_mem _ hy)) b3
      exact ⟨_, _, rfl, R3, s3 _ _ eo, s3⟩
    · rintro σ H2 ⟨v3, v4, rfl, R2, eo2, s2⟩
      show R0 _ _ _
      rw [show (sidV S).length = S.length from by unfold sidV; simp, List.take_length] at R2
      subst hR0
      refine seqG fun R0 hR0 => ?_
      refine for_en o (sidV S) (Pe t l o x A d h0 S H) (fun _ => rfl) (.inl (.inl eo2)) ⟨[], _, [], _, _, rfl, R2, .nil, Pl.start n1, Nat.zero_le _, eo2, s2⟩ (fun i σ H _ h => .inl (.inl (by obtain ⟨_, _, _, _, _, _, _, _, _, _, e, _⟩ := h; exact e))) ?_ ?_
      · rintro i v σ H3 q hx ⟨ps, f', ds, w3, w4, rfl, R3, rn, p, ln, eo3, s3⟩ nq
        obtain ⟨hi, rfl⟩ := sid_get hx
        refine ⟨q, _, rfl, .inl (.inl upd_same), rfl, _, _, rfl, _, _, rfl, rfl, ?_⟩
        have s4 : Same H3 (upd H3 q (.tup [.int (i : Int), sid (S.getD i false)])) := same_new nq
        generalize upd H3 q (.tup [.int (i : Int), sid (S.getD i false)]) = H4 at *
        have R4 := R3.same s4
        have S4 := s3.trans s4
        obtain ⟨dx4, o4⟩ := R4.ob
        refine ifG fun T1 U1 hT1 hU1 => ?_
        try simp_arith [true_and]
        cases hs : S.getD i false with
        | false =>
          rw [sid_u]
          try simp_arith [true_and]
          rw [if_pos (by decide)]
          subst hT1
          try simp_arith [o4, rq_bu]
          refine ⟨x, A, d, ps, f', ds, h0, S, i, rfl, R4, p, hi, hs, n8, by omega, by omega, fun H5 ps5 f5 ds5 R5 rn5 p5 l5 b5 => ?_⟩
          have s5 := same_over S4 frH b5
          exact ⟨ps5, f5, _, _, _, rfl, R5, rn.trans rn5, p5, by rw [List.length_append]; omega, s5 _ _ eo, s5⟩
        | true =>
          rw [sid_d]
          try simp_arith [true_and]
          rw [if_neg (by decide)]
          subst hU1
          try simp_arith [o4, rq_bd]
          refine ⟨x, A, d, ps, f', ds, h0, S, i, rfl, R4, p, hi, hs, n8, by omega, by omega, fun H5 ps5 f5 ds5 R5 rn5 p5 l5 b5 => ?_⟩
          have s5 := same_over S4 frH b5
          exact ⟨ps5, f5, _, _, _, rfl, R5, rn.trans rn5, p5, by rw [List.length_append]; omega, s5 _ _ eo, s5⟩
      · rintro σ H3 ⟨ps, f', ds, w3, w4, rfl, R3, rn, p, ln, eo3, s3⟩
        show R0 _ _ _
        rw [show (sidV S).length = S.length from by unfold sidV; simp] at p ln
        obtain ⟨dx3, o3⟩ := R3.ob
        subst hR0
        try simp_arith [o3, T.cl_Rehearsal, T.n_Rehearsal_deeds, rh_dd]
        exact k d ps ds f' H3 s3 (frH d (by simp)) rn p (by omega) R3.dl R3.ln R3.it
end
section
variable {P : Program} {w : World} {K : PySem.W.Frag} {mg : Str → Option Value} {base : Heap} {t : Adr}
theorem rep_bls (n : Nat) (b : Bool) : (List.replicate n [V.bl b]).flatten = bls (List.replicate n b) := by
  induction n with
  | zero => rfl
  | succ n ih => rw [List.replicate_succ, List.replicate_succ, List.flatten_cons, ih]; rfl
inductive sp_bcost  (vs : List V) (H : Hp) (Q : VK) (E_ : XK) : Prop
  | mk (l : Addr) (h : List Bool) (d : Bool) (z0 : vs = [.ref l, sid d]) (z1 : H l = some (.lst (bls h))) (z2 : 1 ≤ h.length) (z3 : h.length ≤ 1000) (z4 : ∀ H', Same H H' → Q (.int (cost1 h d)) H') : sp_bcost  vs H Q E_
theorem sc_boat_cost : FnScope ["high", "side"] ["high", "side"] (defScope s_boat_cost) := ⟨rfl, rfl, rfl, by decide +kernel, rfl, by decide +kernel, by decide +kernel⟩
set_option maxHeartbeats 800000 in
theorem ok_boat_cost (T : Txt w K mg t) : FnOk P w K mg base (CXe P w) 1 t.f_boat_cost t.d_boat_cost ["high", "side"] (sp_bcost) := by
  refine okX T.F_boat_cost sc_boat_cost (fun vs H Q E h => ?_) (fun cdv A outer s H vs Q E hr h => ?_)
  · obtain ⟨l, h, d, rfl, _⟩ := h; rfl
  · obtain ⟨l, h, d, rfl, hl, z1, z2, k⟩ := h
    refine ⟨_, (pss_cons (ps_if (tu_cmp (ou_eq hr.units) (pu 1) pe_str (nomark _)) (pss_one (ps_ret (pe_op ou_add pe_int (eu_lm PySem.F.slot_list_count PySem.F.type_list_count mu_count (pe_slice (sl_listK (K := K) rfl) (pu 0) (po_some pe_int) po_none) (pa_cons pe_bl pa_nil))))) pss_nil)
 (pss_one (ps_ret (pe_ifExp (tu_val (eu_ix xu_seq (pu 0) (pe_un uu_neg pe_int))) pe_int pe_int)))), ?_⟩
    simp only [tSeq]
    cases d with
    | false =>
      rw [sid_u]
      try simp_arith [decide_true, tSl, tPart, tNoPart, rSlL]
      refine ⟨1, rfl, l, _, rfl, .inl (.inl hl), fun p n_p => ?_⟩
      rw [cut_one]
      try simp_arith [flat_bls', flatV, count_low]
      exact k _ (same_new n_p)
    | true =>
      have e1 : decide (V.str (Str.ofString "down") = V.str (Str.ofString "up")) = false := by decide
      rw [sid_d]
      try simp_arith [e1, hl, at_last z1]
      have e2 : cost1 h true = if h.getLastD true = true then 0 else 1 := rfl
      rw [e2] at k
      by_cases c : h.getLastD true = true
      · rw [if_pos c]; rw [if_pos c] at k; exact k _ (Same.refl _)
      · rw [if_neg c]; rw [if_neg c] at k; exact k _ (Same.refl _)
inductive sp_lbeh  (vs : List V) (H : Hp) (Q : VK) (E_ : XK) : Prop
  | mk (n : Int) (d : Bool) (z0 : vs = [.int n, sid d]) (z1 : 0 ≤ n) (z2 : n ≤ 1000) (z3 : ∀ l H', Same H H' → H l = none → H' l = some (.lst (bls (List.replicate n.toNat (!d)))) → Q (.ref l) H') : sp_lbeh  vs H Q E_
theorem sc_levels_behind : FnScope ["many", "side"] ["many", "side"] (defScope s_levels_behind) := ⟨rfl, rfl, rfl, by decide +kernel, rfl, by decide +kernel, by decide +kernel⟩
set_option maxHeartbeats 800000 in
theorem ok_levels_behind (T : Txt w K mg t) : FnOk P w K mg base (CXe P w) 1 t.f_levels_behind t.d_levels_behind ["many", "side"] (sp_lbeh) := by
  refine okX T.F_levels_behind sc_levels_behind (fun vs H Q E h => ?_) (fun cdv A outer s H vs Q E hr h => ?_)
  · obtain ⟨n, d, rfl, _⟩ := h; rfl
  · obtain ⟨n, d, rfl, z1, z2, k⟩ := h
    refine ⟨_, (pss_one (ps_ret (pe_op ou_mul (pe_lst (pa_cons (pe_cmpR (ou_eq hr.units) (pu 1) pe_str (nomark _)) pa_nil)) (pu 0)))), ?_⟩
    rw [sid_eq]
    try simp_arith [true_and]
    rw [← sid_eq, sid_is_u]
    refine ⟨by decide, fun q n_q => ?_⟩
    rw [rep_bls]
    refine ⟨⟨by omega, by omega, ?_⟩, fun p n_p => ?_⟩
    · exact Nat.le_trans (by simp; omega : _ ≤ 1000) (by decide)
    · exact k p _ ((same_new n_q).trans (same_new n_p)) (same_was (same_new n_q) n_p) upd_same
end
section
variable {P : Program} {w : World} {K : PySem.W.Frag} {mg : Str → Option Value} {base : Heap} {t : Adr}
theorem mk8_flight {t : Adr} {H : Hp} {x dx l : Addr} {lv : List Bool} {Q : VK} {E : XK} (nx : H x = none) (ndx : H dx = none) (ne : dx ≠ x) (hl : H l = some (.lst (bls lv))) (hz : lv.length ≤ 1000)
    (k1 : (lv.length < 1 ∨ 8 < lv.length) → ∀ H', Same H H' → E (.ref t.c_BadFlight) none H')
    (k : 1 ≤ lv.length → lv.length ≤ 8 → ∀ (A : FA) H', A.p = x → (∀ y ∈ A.foot, H y = none) → Same H H' → FlAt t H' A (Fl.new lv) → Q .non H') :
    sp_init t [.ref x, .ref l] (upd (upd H dx (.own x)) x (.ins t.c_Flight dx [])) Q E := by
  have n1 : l ≠ x := ne_of_none hl nx
  have n2 : l ≠ dx := ne_of_none hl ndx
  have sm : Same H (upd (upd H dx (.own x)) x (.ins t.c_Flight dx [])) := fun y o ey => by rw [upd_ne (ne_of_none ey nx), upd_ne (ne_of_none ey ndx)]; exact ey
  refine ⟨x, l, dx, lv, rfl, upd_same, by rw [upd_ne n1, upd_ne n2]; exact hl, hz, ?_⟩
  by_cases c : lv.length < 1 ∨ 8 < lv.length
  · rw [if_pos c]; exact k1 c _ sm
  · rw [if_neg c]
    intro A H' e fr F b
    refine k (by omega) (by omega) A H' e (fun y hy => ?_) (fun y o ey => ?_) F
    · rcases fr y hy with h | h
      · rw [h]; exact nx
      · exact (upd_none (upd_none h).2).2
    · have m1 : y ≠ x := ne_of_none ey nx
      have m2 : y ≠ dx := ne_of_none ey ndx
      exact b y o (by rw [upd_ne m1, upd_ne m2]; exact ey) (by simpa using m1)
inductive PvK (lv S : List Bool) (l o : Addr) (H0 : Hp) (i : Nat) (σ : St) (H' : Hp) : Prop
  | mk (h : Addr) (v4 : Option V) (z0 : σ = [some (.ref l), some (.ref o), some (.ref h), some (.int (costOf lv (S.take i))), v4]) (z1 : Same H0 H') (z2 : H' h = some (.lst (bls (aft lv (S.take i))))) (z3 : H' o = some (.lst (sidV S))) : PvK lv S l o H0 i σ H'
inductive sp_cost (t : Adr) (vs : List V) (H : Hp) (Q : VK) (E : XK) : Prop
  | mk (l o : Addr) (lv S : List Bool) (z0 : vs = [.ref l, .ref o]) (z1 : H l = some (.lst (bls lv))) (z2 : H o = some (.lst (sidV S))) (z3 : lv.length ≤ 1000) (z4 : ((lv.length < 1 ∨ 8 < lv.length) → ∀ H', Same H H' → E (.ref t.c_BadFlight) none H')) (z5 : ((1 ≤ lv.length ∧ lv.length ≤ 8) → ∀ H', Same H H' → Q (.int (costOf lv S)) H')) : sp_cost t vs H Q E
theorem sc_cost : FnScope ["levels", "order", "high", "lockfuls", "side"] ["levels", "order"] (defScope s_cost) := ⟨rfl, rfl, rfl, by decide +kernel, rfl, by decide +kernel, by decide +kernel⟩
set_option maxHeartbeats 800000 in
theorem ok_cost (T : Txt w K mg t) : FnOk P w K mg base (CXe P w) 3 t.f_cost t.d_cost ["levels", "order"] (sp_cost t) := by
  have G_init := ok_init (P := P) (w := w) (base := base) T
  have G_levels := ok_levels (P := P) (w := w) (base := base) T
  have G_boat_cost := ok_boat_cost (P := P) (w := w) (base := base) T
  have G_levels_behind := ok_levels_behind (P := P) (w := w) (base := base) T
  refine okX T.F_cost sc_cost (fun vs H Q E h => ?_) (fun cdv A outer s H vs Q E hr h => ?_)
  · obtain ⟨l, o, lv, S, rfl, _⟩ := h; rfl
  · obtain ⟨l, o, lv, S, rfl, hl, ho, hz, k1, k⟩ := h
    refine ⟨_, (pss_cons (ps_set (i := 2) sc_cost.nd rfl (Or.inl rfl) (eu_meth0 (eu_make T.mkc G_init (hr.mono (by decide)) rfl T.g_Flight T.b_init passB (pa_cons (pu 0) pa_nil)) T.cl T.m_levels G_levels (hr.mono (by decide)) T.b_levels passB))
 (pss_cons (ps_set (i := 3) sc_cost.nd rfl (Or.inl rfl) pe_int)
 (pss_cons (ps_for ownB rfl (pi_listK (K := K) rfl (pu 1)) (pg_name (i := 4) sc_cost.nd rfl (Or.inl rfl)) (pss_cons (ps_aug (i := 3) sc_cost.nd rfl (Or.inl rfl) (eu_call G_boat_cost (hr.mono (by decide)) rfl T.g_boat_cost T.F_boat_cost.kp T.b_boat_cost passB (pa_cons (pu 2) (pa_cons (pu 4) pa_nil))) ip_add)
 (pss_one (ps_set (i := 2) sc_cost.nd rfl (Or.inl rfl) (eu_call G_levels_behind (hr.mono (by decide)) rfl T.g_levels_behind T.F_levels_behind.kp T.b_levels_behind passB (pa_cons (pe_callB cu_len rfl T.z_len PySem.boot_len (pa_cons (pu 2) pa_nil)) (pa_cons (pu 4) pa_nil)))))))
 (pss_one (ps_ret (pu 3)))))), ?_⟩
    rw [tSeq]
    generalize hR1 : tSeq _ _ = R1
    try simp_arith [true_and]
    intro x dx nx ndx ndxx
    refine mk8_flight nx ndx ndxx hl hz k1 fun lo hi A H3 eA frA s3 FA => ⟨rfl, ?_⟩
    subst eA
    replace k := k ⟨lo, hi⟩
    obtain ⟨⟨dA, fA⟩, _⟩ := id FA
    try simp_arith [fA, fn_summit, fn_is_chamber, fn_can_give, fn_can_take, fn_give, fn_take, fn_let, fn_levels, fn_drawn, fn_out, fn_boats, fn_waiting, fn_through, fn_side, fn_place, fn_come, fn_sail, fn_is_level, fn_leave, fn_enter]
    refine ⟨A, _, rfl, FA, fun h n_h => ?_⟩
    show R1 _ _ (upd H3 h (.lst (bls lv)))
    have s4 := s3.trans (same_new (o := HO.lst (bls lv)) n_h)
    replace ho := s4 _ _ ho
    have sm_H4 := same_new (o := HO.lst (bls lv)) n_h
    have e_h : upd H3 h (HO.lst (bls lv)) h = some (HO.lst (bls lv)) := upd_same
    generalize upd H3 h (HO.lst (bls lv)) = H4 at *
    clear FA fA sm_H4 s3 n_h
    subst hR1
    simp only [tSeq]
    try simp_arith [true_and]
    refine for_var (PvK lv S l o H) rfl ⟨h, none, rfl, s4, e_h, ho⟩ (fun i σ H' ⟨_, _, _, _, _, e⟩ => e) ?_ ?_
    · rintro i x σ H' hx ⟨h', v4, rfl, s', eh, eo⟩
      obtain ⟨d, hd, rfl⟩ := sid_at hx
      obtain ⟨c1, c2⟩ := costOf_take lv S hd
      have ln : (aft lv (S.take i)).length = lv.length := aft_len _ _
      generalize aft lv (S.take i) = hh at *
      generalize costOf lv (S.take i) = T0 at *
      simp only [tSeq]
      try simp_arith [true_and]
      refine ⟨_, rfl, h', hh, d, rfl, eh, by omega, by omega, fun H2 s2 => ⟨_, _, rfl, rfl, ?_⟩⟩
      replace eh := s2 _ _ eh
      try simp_arith [eh, len_bls]
      refine ⟨_, d, rfl, by omega, by omega, fun b H5 s5 n_b eb => ?_⟩
      refine ⟨b, some (sid d), ?_, s'.trans (s2.trans s5), ?_, (s2.trans s5) _ _ eo⟩
      · rw [c1]
      · rw [eb, c2, Lf.map_const]; simp
    · rintro σ H' ⟨h', v4, rfl, s', eh, eo⟩
      rw [len_sidV, List.take_length]
      try simp_arith [true_and]
      exact k _ s'
end
def lstV : Option Bool → V
  | none => .non
  | some d => sid d
def stF (d : Addr) (l : Option Bool) (r : Int) : List (Str × V) := [("left", .ref d), ("last", lstV l), ("run", .int r)]
theorem st_left (d : Addr) (l : Option Bool) (r : Int) : (stF d l r).lookup ("left" : Str) = some (V.ref d) := rfl
theorem st_last (d : Addr) (l : Option Bool) (r : Int) : (stF d l r).lookup ("last" : Str) = some (lstV l) := rfl
theorem st_run (d : Addr) (l : Option Bool) (r : Int) : (stF d l r).lookup ("run" : Str) = some (V.int r) := rfl
theorem sn_may (d : Addr) (l : Option Bool) (r : Int) : (stF d l r).lookup ("may_go" : Str) = none := rfl
theorem sn_behind (d : Addr) (l : Option Bool) (r : Int) : (stF d l r).lookup ("behind" : Str) = none := rfl
theorem sn_mark (d : Addr) (l : Option Bool) (r : Int) : (stF d l r).lookup ("mark" : Str) = none := rfl
theorem sn_empty (d : Addr) (l : Option Bool) (r : Int) : (stF d l r).lookup ("is_empty" : Str) = none := rfl
def lftD (u w : Int) : List (Key × V) := [(Sum.inr (Str.ofString "up"), .int u), (Sum.inr (Str.ofString "down"), .int w)]
theorem lf_up (u w : Int) : valV (lftD u w) (Sum.inr (Str.ofString "up")) = some (V.int u) := rfl
theorem lf_dn (u w : Int) : valV (lftD u w) (Sum.inr (Str.ofString "down")) = some (V.int w) := rfl
theorem lf_pu (u w x : Int) : putK (lftD u w) (Sum.inr (Str.ofString "up")) (V.int x) = lftD x w := rfl
theorem lf_pd (u w x : Int) : putK (lftD u w) (Sum.inr (Str.ofString "down")) (V.int x) = lftD u x := rfl
theorem lf_len (u w : Int) : (lftD u w).length = 2 := rfl
structure StdAt (t : Adr) (H : Hp) (p : Addr) (u w : Nat) (l : Option Bool) (r : Int) : Prop where
  ob : ∃ dx d, H p = some (.ins t.c_Stand dx (stF d l r)) ∧ H d = some (.dK (lftD u w))
theorem StdAt.but {t : Adr} {H H' : Hp} {p kn : Addr} {u w : Nat} {l : Option Bool} {r : Int} {kvs : List (List Key × V)} (S : StdAt t H p u w l r) (hk : H kn = some (.dT kvs)) (b : But [kn] H H') : StdAt t H' p u w l r := by
  obtain ⟨dx, d, h1, h2⟩ := S.ob
  have n1 : p ≠ kn := ne_of h1 hk (by intro z; cases z)
  have n2 : d ≠ kn := ne_of h2 hk (by intro z; cases z)
  exact ⟨dx, d, b _ _ h1 (by simpa using n1), b _ _ h2 (by simpa using n2)⟩
theorem StdAt.same {t : Adr} {H H' : Hp} {p : Addr} {u w : Nat} {l : Option Bool} {r : Int} (S : StdAt t H p u w l r) (s : Same H H') : StdAt t H' p u w l r := by
  obtain ⟨dx, d, h1, h2⟩ := S.ob
  exact ⟨dx, d, s _ _ h1, s _ _ h2⟩
def rsF (pt : Int) (kn : Addr) : List (Str × V) := [("patience", .int pt), ("known", .ref kn)]
theorem rs_pat (pt : Int) (kn : Addr) : (rsF pt kn).lookup ("patience" : Str) = some (V.int pt) := rfl
theorem rs_kn (pt : Int) (kn : Addr) : (rsF pt kn).lookup ("known" : Str) = some (V.ref kn) := rfl
theorem rn_rest (pt : Int) (kn : Addr) : (rsF pt kn).lookup ("rest_of" : Str) = none := rfl
theorem rn_cost (pt : Int) (kn : Addr) : (rsF pt kn).lookup ("cost_by" : Str) = none := rfl
theorem rn_next (pt : Int) (kn : Addr) : (rsF pt kn).lookup ("next_sides" : Str) = none := rfl
theorem rn_best (pt : Int) (kn : Addr) : (rsF pt kn).lookup ("best_side" : Str) = none := rfl
def sdS (d : Bool) : Str := if d then Str.ofString "down" else Str.ofString "up"
def keyM (u w : Nat) (l : Bool) (r : Int) : List Key := [.inl u, .inl w, .inr (sdS l), .inl r]
theorem keyM_v (u w : Nat) (l : Bool) (r : Int) : (keyM u w l r).map kV = [.int u, .int w, sid l, .int r] := by
  cases l <;> rfl
theorem keyM_inj {u w u' w' : Nat} {l l' : Bool} {r r' : Int} (h : keyM u w l r = keyM u' w' l' r') : u = u' ∧ w = w' ∧ l = l' ∧ r = r' := by
  unfold keyM at h
  simp only [List.cons.injEq, Sum.inl.injEq, Sum.inr.injEq, and_true] at h
  obtain ⟨h1, h2, h3, h4⟩ := h
  refine ⟨by omega, by omega, ?_, h4⟩
  cases l <;> cases l' <;> first | rfl | exact absurd h3 (by decide +kernel)
def KnOk (n : Nat) (pt : Int) (kvs : List (List Key × V)) : Prop := ∀ u w l r v, valV kvs (keyM u w l r) = some v → v = .int (rst n pt u w l r)
theorem KnOk.put {n : Nat} {pt : Int} {kvs : List (List Key × V)} (h : KnOk n pt kvs) (u w : Nat) (l : Bool) (r : Int) : KnOk n pt (putK kvs (keyM u w l r) (.int (rst n pt u w l r))) := by
  intro u' w' l' r' v e
  rw [valV_put] at e
  by_cases c : keyM u' w' l' r' = keyM u w l r
  · obtain ⟨rfl, rfl, rfl, rfl⟩ := keyM_inj c
    rw [if_pos rfl] at e
    exact (Option.some.inj e).symm
  · rw [if_neg c] at e
    exact h _ _ _ _ _ e
theorem sid_ne (b c : Bool) : decide (sid b = sid c) = decide (b = c) := by cases b <;> cases c <;> decide +kernel
theorem lst_ne (b : Bool) (l : Option Bool) : decide (sid b = lstV l) = decide (some b = l) := by
  cases l with
  | none => cases b <;> rfl
  | some c => rw [show lstV (some c) = sid c from rfl, sid_ne]; simp
theorem scal_sid (b : Bool) (l : Option Bool) : scal (sid b) (lstV l) = true := by
  cases l with
  | none => cases b <;> rfl
  | some c => cases b <;> cases c <;> rfl
theorem scal_sl (b : Bool) (l : Option Bool) : scal (.str (if b = true then Str.ofString "down" else Str.ofString "up")) (lstV l) = true := by
  cases l with
  | none => rfl
  | some c => cases c <;> rfl
section
variable {P : Program} {w : World} {K : PySem.W.Frag} {mg : Str → Option Value} {base : Heap} {t : Adr}
inductive sp_stInit (t : Adr) (vs : List V) (H : Hp) (Q : VK) (E_ : XK) : Prop
  | mk (x dx : Addr) (u w : Nat) (l : Option Bool) (r : Int) (z0 : vs = [.ref x, .int u, .int w, lstV l, .int r]) (z1 : H x = some (.ins t.c_Stand dx [])) (z2 : ∀ H', But [x] H H' → StdAt t H' x u w l r → Q .non H') : sp_stInit t vs H Q E_
theorem sc_Stand_init : FnScope ["self", "ups", "downs", "last", "run"] ["self", "ups", "downs", "last", "run"] (defScope s_Stand_init) := ⟨rfl, rfl, rfl, by decide +kernel, rfl, by decide +kernel, by decide +kernel⟩
set_option maxHeartbeats 800000 in
theorem ok_Stand_init (T : Txt w K mg t) : FnOk P w K mg base (CXe P w) 1 t.f_Stand_init t.d_Stand_init ["self", "ups", "downs", "last", "run"] (sp_stInit t) := by
  refine okX T.F_Stand_init sc_Stand_init (fun vs H Q E h => ?_) (fun cdv A outer s H vs Q E hr h => ?_)
  · obtain ⟨x, dx, u, w, l, r, rfl, _⟩ := h; rfl
  · obtain ⟨x, dx, u, w', l, r, rfl, hx, k⟩ := h
    refine ⟨_, (pss_cons (su_fldK (K := K) rfl (pu 0) (pe_disp (pps_cons pe_str (pu 1) (pps_cons pe_str (pu 2) pps_nil)) rfl rfl (by intro z; cases z) (by decide)))
 (pss_cons (su_fldK (K := K) rfl (pu 0) (pu 3))
 (pss_one (su_fldK (K := K) rfl (pu 0) (pu 4))))), ?_⟩
    simp only [tSeq]
    try simp_arith [tDisp, tPairs]
    intro d n_d
    have hxd : x ≠ d := ne_of_none hx n_d
    refine ⟨[(Sum.inr (Str.ofString "up"), .int u), (Sum.inr (Str.ofString "down"), .int w')], rfl, by simp, ?_⟩
    rw [upd_upd, show mergeK [] [(Sum.inr (Str.ofString "up"), V.int (u : Int)), (Sum.inr (Str.ofString "down"), V.int (w' : Int))] = lftD u w' from rfl]
    have b1 : But [x] H (upd H d (.dK (lftD u w'))) := But.same (same_new n_d)
    have e_d : upd H d (.dK (lftD u w')) d = some (.dK (lftD u w')) := upd_same
    have e_x : upd H d (.dK (lftD u w')) x = some (.ins t.c_Stand dx []) := by rw [upd_ne hxd]; exact hx
    generalize upd H d (.dK (lftD u w')) = H1 at *
    try simp_arith [e_x, T.cl_Stand, T.n_Stand_left]
    refine ⟨show 0 < 1000 by decide, ?_⟩
    have e_x2 : upd H1 x (HO.ins t.c_Stand dx (putF (Str.ofString "left") (V.ref d) [])) x = some (HO.ins t.c_Stand dx (putF (Str.ofString "left") (V.ref d) [])) := upd_same
    replace b1 := b1.trans (But.upd (H := H1) (a := x) (o := HO.ins t.c_Stand dx (putF (Str.ofString "left") (V.ref d) [])) (List.mem_singleton.mpr rfl))
    replace e_d : upd H1 x (HO.ins t.c_Stand dx (putF (Str.ofString "left") (V.ref d) [])) d = some (.dK (lftD u w')) := by rw [upd_ne hxd.symm]; exact e_d
    generalize upd H1 x _ = H2 at *
    rw [tSeq]
    try simp_arith [e_x2, T.cl_Stand, T.n_Stand_last]
    refine ⟨show 1 < 1000 by decide, ?_⟩
    have e_x3 : upd H2 x (HO.ins t.c_Stand dx (putF (Str.ofString "last") (lstV l) (putF (Str.ofString "left") (V.ref d) []))) x = some (HO.ins t.c_Stand dx (putF (Str.ofString "last") (lstV l) (putF (Str.ofString "left") (V.ref d) []))) := upd_same
    replace b1 := b1.trans (But.upd (H := H2) (a := x) (o := HO.ins t.c_Stand dx (putF (Str.ofString "last") (lstV l) (putF (Str.ofString "left") (V.ref d) []))) (List.mem_singleton.mpr rfl))
    replace e_d : upd H2 x (HO.ins t.c_Stand dx (putF (Str.ofString "last") (lstV l) (putF (Str.ofString "left") (V.ref d) []))) d = some (.dK (lftD u w')) := by rw [upd_ne hxd.symm]; exact e_d
    generalize upd H2 x _ = H3 at *
    try simp_arith [e_x3, T.cl_Stand, T.n_Stand_run]
    refine ⟨show 2 < 1000 by decide, ?_⟩
    refine k _ (b1.trans (But.upd (List.mem_singleton.mpr rfl))) ⟨dx, d, ?_, by rw [upd_ne hxd.symm]; exact e_d⟩
    rw [upd_same]; rfl
inductive sp_may (t : Adr) (vs : List V) (H : Hp) (Q : VK) (E_ : XK) : Prop
  | mk (p : Addr) (u w : Nat) (l : Option Bool) (r pt : Int) (d : Bool) (z0 : vs = [.ref p, sid d, .int pt]) (z1 : StdAt t H p u w l r) (z2 : Q (.bl (mayS u w l r pt d)) H) : sp_may t vs H Q E_
theorem sc_Stand_may_go : FnScope ["self", "side", "patience", "other"] ["self", "side", "patience"] (defScope s_Stand_may_go) := ⟨rfl, rfl, rfl, by decide +kernel, rfl, by decide +kernel, by decide +kernel⟩
set_option maxHeartbeats 800000 in
theorem ok_Stand_may_go (T : Txt w K mg t) : FnOk P w K mg base (CXe P w) 1 t.f_Stand_may_go t.d_Stand_may_go ["self", "side", "patience"] (sp_may t) := by
  refine okX T.F_Stand_may_go sc_Stand_may_go (fun vs H Q E h => ?_) (fun cdv A outer s H vs Q E hr h => ?_)
  · obtain ⟨p, u, w, l, r, pt, d, rfl, _⟩ := h; rfl
  · obtain ⟨p, u, w', l, r, pt, d, rfl, S, k⟩ := h
    have hu1 := hu_of hr
    obtain ⟨dx, q, h1, h2⟩ := S.ob
    refine ⟨_, (pss_cons (ps_if (tu_cmp (ou_eq hr.units) (eu_dget hu1 (eu_fldK (K := K) rfl (pu 0)) (pu 1)) pe_int (nomark _)) (pss_one (ps_ret pe_bl)) pss_nil)
 (pss_cons (ps_set (i := 3) sc_Stand_may_go.nd rfl (Or.inl rfl) (pe_ifExp (tu_cmp (ou_eq hr.units) (pu 1) pe_str (nomark _)) pe_str pe_str))
 (pss_one (ps_ret (eu_or (pe_cmpR (ou_eq hr.units) (eu_dget hu1 (eu_fldK (K := K) rfl (pu 0)) (pu 3)) pe_int (nomark _)) (eu_or (pe_cmpR (ou_ne hr.units) (pu 1) (eu_fldK (K := K) rfl (pu 0)) (nomark _)) (pe_one (pe_cmpR ou_lt (eu_fldK (K := K) rfl (pu 0)) (pu 2) (nomark _))))))))), ?_⟩
    simp only [tSeq]
    cases d with
    | false =>
      have e1 : decide (V.str (Str.ofString "up") = lstV l) = decide (some false = l) := lst_ne false l
      have e2 : scal (V.str (Str.ofString "up")) (lstV l) = true := scal_sl false l
      rw [sid_u]
      try simp_arith [h1, T.cl_Stand, T.n_Stand_left, T.n_Stand_last, T.n_Stand_run, st_left, st_last, st_run, h2, lf_up, lf_dn, decide_true, e1, e2]
      unfold mayS at k
      by_cases c1 : u = 0
      · simp [c1] at k ⊢; exact k
      · rw [if_neg (by simpa using c1)]
        simp only [tSeq]
        try simp_arith [h1, T.cl_Stand, T.n_Stand_left, T.n_Stand_last, T.n_Stand_run, st_left, st_last, st_run, h2, lf_up, lf_dn, decide_true, e1, e2]
        by_cases c2 : w' = 0
        · simp [c1, c2] at k ⊢; exact k
        · by_cases c3 : some false = l
          · simp [c1, c2, c3] at k ⊢; exact k
          · simp [c1, c2, c3] at k ⊢; exact k
    | true =>
      have e1 : decide (V.str (Str.ofString "down") = lstV l) = decide (some true = l) := lst_ne true l
      have e2 : scal (V.str (Str.ofString "down")) (lstV l) = true := scal_sl true l
      have e3 : decide (V.str (Str.ofString "down") = V.str (Str.ofString "up")) = false := by decide
      rw [sid_d]
      try simp_arith [h1, T.cl_Stand, T.n_Stand_left, T.n_Stand_last, T.n_Stand_run, st_left, st_last, st_run, h2, lf_up, lf_dn, decide_true, e1, e2, e3]
      unfold mayS at k
      by_cases c1 : w' = 0
      · simp [c1] at k ⊢; exact k
      · rw [if_neg (by simpa using c1)]
        simp only [tSeq]
        try simp_arith [h1, T.cl_Stand, T.n_Stand_left, T.n_Stand_last, T.n_Stand_run, st_left, st_last, st_run, h2, lf_up, lf_dn, decide_true, e1, e2, e3]
        by_cases c2 : u = 0
        · simp [c1, c2] at k ⊢; exact k
        · by_cases c3 : some true = l
          · simp [c1, c2, c3] at k ⊢; exact k
          · simp [c1, c2, c3] at k ⊢; exact k
inductive sp_mark (t : Adr) (vs : List V) (H : Hp) (Q : VK) (E_ : XK) : Prop
  | mk (p : Addr) (u w : Nat) (l : Bool) (r : Int) (z0 : vs = [.ref p]) (z1 : StdAt t H p u w (some l) r) (z2 : ∀ b, H b = none → Q (.ref b) (upd H b (.tup ((keyM u w l r).map kV)))) : sp_mark t vs H Q E_
theorem sc_Stand_mark : FnScope ["self"] ["self"] (defScope s_Stand_mark) := ⟨rfl, rfl, rfl, by decide +kernel, rfl, by decide +kernel, by decide +kernel⟩
set_option maxHeartbeats 800000 in
theorem ok_Stand_mark (T : Txt w K mg t) : FnOk P w K mg base (CXe P w) 1 t.f_Stand_mark t.d_Stand_mark ["self"] (sp_mark t) := by
  refine okX T.F_Stand_mark sc_Stand_mark (fun vs H Q E h => ?_) (fun cdv A outer s H vs Q E hr h => ?_)
  · obtain ⟨p, u, w, l, r, rfl, _⟩ := h; rfl
  · obtain ⟨p, u, w', l, r, rfl, S, k⟩ := h
    have hu1 := hu_of hr
    obtain ⟨dx, q, h1, h2⟩ := S.ob
    refine ⟨_, (pss_one (ps_ret (pe_tup (pa_cons (eu_dget hu1 (eu_fldK (K := K) rfl (pu 0)) pe_str) (pa_cons (eu_dget hu1 (eu_fldK (K := K) rfl (pu 0)) pe_str) (pa_cons (eu_fldK (K := K) rfl (pu 0)) (pa_cons (eu_fldK (K := K) rfl (pu 0)) pa_nil))))))), ?_⟩
    try simp_arith [h1, T.cl_Stand, T.n_Stand_left, T.n_Stand_last, T.n_Stand_run, st_left, st_last, st_run, h2, lf_up, lf_dn]
    refine ⟨by decide, fun b n_b => ?_⟩
    have := k b n_b
    rw [keyM_v] at this
    exact this
inductive sp_behind (t : Adr) (vs : List V) (H : Hp) (Q : VK) (E_ : XK) : Prop
  | mk (p : Addr) (u w : Nat) (l : Option Bool) (r : Int) (d : Bool) (z0 : vs = [.ref p, sid d]) (z1 : StdAt t H p u w l r) (z2 : (if d then w else u) ≠ 0) (z3 : ∀ s H', Same H H' → H s = none → StdAt t H' s (uB u d) (wB w d) (some d) (rB l r d) → Q (.ref s) H') : sp_behind t vs H Q E_
theorem sc_Stand_behind : FnScope ["self", "side", "left", "run"] ["self", "side"] (defScope s_Stand_behind) := ⟨rfl, rfl, rfl, by decide +kernel, rfl, by decide +kernel, by decide +kernel⟩
set_option maxHeartbeats 800000 in
theorem ok_Stand_behind (T : Txt w K mg t) : FnOk P w K mg base (CXe P w) 3 t.f_Stand_behind t.d_Stand_behind ["self", "side"] (sp_behind t) := by
  have G_Stand_init := ok_Stand_init (P := P) (w := w) (base := base) T
  refine okX T.F_Stand_behind sc_Stand_behind (fun vs H Q E h => ?_) (fun cdv A outer s H vs Q E hr h => ?_)
  · obtain ⟨p, u, w, l, r, d, rfl, _⟩ := h; rfl
  · obtain ⟨p, u, w', l, r, d, rfl, S, hne, k⟩ := h
    have hu1 := hu_of hr
    obtain ⟨dx, q, h1, h2⟩ := S.ob
    refine ⟨_, (pss_cons (ps_set (i := 2) sc_Stand_behind.nd rfl (Or.inl rfl) (pe_callTy cu_dict rfl T.z_dict PyProof.Rows.boot_dict (pa_cons (eu_fldK (K := K) rfl (pu 0)) pa_nil)))
 (pss_cons (ps_daug hu1 (pu 2) (pu 1) pe_int in_sub (fun _ _ _ => rfl))
 (pss_cons (ps_set (i := 3) sc_Stand_behind.nd rfl (Or.inl rfl) (pe_ifExp (tu_cmp (ou_eq hr.units) (pu 1) (eu_fldK (K := K) rfl (pu 0)) (nomark _)) (pe_op ou_add (eu_fldK (K := K) rfl (pu 0)) pe_int) pe_int))
 (pss_one (ps_ret (eu_make T.mkc_Stand G_Stand_init (hr.mono (by decide)) rfl T.g_Stand T.b_Stand_init passB (pa_cons (eu_dget hu1 (pu 2) pe_str) (pa_cons (eu_dget hu1 (pu 2) pe_str) (pa_cons (pu 1) (pa_cons (pu 3) pa_nil)))))))))), ?_⟩
    rw [tSeq]
    generalize hR1 : tSeq _ _ = R1
    try simp_arith [h1, T.cl_Stand, T.n_Stand_left, st_left, dictU, h2]
    intro c n_c
    have s1 : Same H (upd H c (.dK (lftD u w'))) := same_new n_c
    have e_c : upd H c (.dK (lftD u w')) c = some (.dK (lftD u w')) := upd_same
    have n_c0 := n_c
    replace h1 := s1 _ _ h1
    have h_pc : p ≠ c := by intro z; subst z; rw [e_c] at h1; cases h1
    generalize upd H c (.dK (lftD u w')) = H1 at *
    subst hR1
    rw [tSeq]
    generalize hR2 : tSeq _ _ = R2
    have key : ∀ (x y : Int), x = (uB u d : Nat) → y = (wB w' d : Nat) → ∀ D, D.rt = Q → R2 D [some (.ref p), some (sid d), some (.ref c), none] (upd H1 c (.dK (lftD x y))) := by
      intro x y ex ey D hD
      have s2 : Same H (upd H1 c (.dK (lftD x y))) := fun b o e => by rw [upd_ne (ne_of_none e n_c0)]; exact s1 b o e
      have e_c2 : upd H1 c (.dK (lftD x y)) c = some (.dK (lftD x y)) := upd_same
      have h1' : upd H1 c (.dK (lftD x y)) p = some (.ins t.c_Stand dx (stF q l r)) := by rw [upd_ne h_pc]; exact h1
      generalize upd H1 c (.dK (lftD x y)) = H2 at *
      subst hR2
      simp only [tSeq]
      have fin : ∀ r', r' = rB l r d → ∀ (a dx' : Addr), H2 a = none → H2 dx' = none → dx' ≠ a → sp_stInit t [V.ref a, V.int x, V.int y, sid d, V.int r'] (upd (upd H2 dx' (HO.own a)) a (HO.ins t.c_Stand dx' [])) (fun v H3 => v = V.non ∧ Q (V.ref a) H3) E := by
        intro r' er a dx' n_a n_dx' ne
        refine ⟨a, dx', uB u d, wB w' d, some d, r', by rw [ex, ey]; rfl, upd_same, fun H3 b3 S3 => ⟨rfl, ?_⟩⟩
        rw [er] at S3
        refine k a H3 (fun b o e => ?_) (same_was s2 n_a) S3
        have e2 := s2 b o e
        have n1 : b ≠ a := ne_of_none e2 n_a
        have n2 : b ≠ dx' := ne_of_none e2 n_dx'
        exact b3 b o (by rw [upd_ne n1, upd_ne n2]; exact e2) (by simpa using n1)
      try simp_arith [h1', T.cl_Stand, T.n_Stand_last, T.n_Stand_run, st_last, st_run, scal_sid, lst_ne]
      by_cases cc : some d = l
      · rw [if_pos (by simpa using cc)]
        try simp_arith [e_c2, lf_up, lf_dn, hD]
        exact fin _ (by unfold rB; rw [if_pos cc])
      · rw [if_neg (by simpa using cc)]
        try simp_arith [e_c2, lf_up, lf_dn, hD]
        exact fin _ (by unfold rB; rw [if_neg cc])
    cases d with
    | false =>
      rw [sid_u] at key ⊢
      try simp_arith [sDAug]
      have g := DGet.k (k := (Sum.inr (Str.ofString "up") : Key)) e_c
      rw [lf_up] at g
      have g2 := DPut.k (k := (Sum.inr (Str.ofString "up") : Key)) (v := .int ((u : Int) - 1)) e_c (by rw [lf_len]; decide)
      rw [lf_pu] at g2
      refine ⟨c, .int u, rfl, g, u, 1, rfl, rfl, _, g2, ?_⟩
      have hu0 : u ≠ 0 := by simpa using hne
      exact key _ _ (by unfold uB; simp; omega) (by unfold wB; simp) _ rfl
    | true =>
      rw [sid_d] at key ⊢
      try simp_arith [sDAug]
      have g := DGet.k (k := (Sum.inr (Str.ofString "down") : Key)) e_c
      rw [lf_dn] at g
      have g2 := DPut.k (k := (Sum.inr (Str.ofString "down") : Key)) (v := .int ((w' : Int) - 1)) e_c (by rw [lf_len]; decide)
      rw [lf_pd] at g2
      refine ⟨c, .int w', rfl, g, w', 1, rfl, rfl, _, g2, ?_⟩
      have hu0 : w' ≠ 0 := by simpa using hne
      exact key _ _ (by unfold uB; simp) (by unfold wB; simp; omega) _ rfl
inductive sp_rsInit (t : Adr) (vs : List V) (H : Hp) (Q : VK) (E_ : XK) : Prop
  | mk (x dx : Addr) (pt : Int) (z0 : vs = [.ref x, .int pt]) (z1 : H x = some (.ins t.c_Rests dx [])) (z2 : ∀ kn H', But [x] H H' → H kn = none → H' x = some (.ins t.c_Rests dx (rsF pt kn)) → H' kn = some (.dT []) → Q .non H') : sp_rsInit t vs H Q E_
theorem sc_Rests_init : FnScope ["self", "patience"] ["self", "patience"] (defScope s_Rests_init) := ⟨rfl, rfl, rfl, by decide +kernel, rfl, by decide +kernel, by decide +kernel⟩
set_option maxHeartbeats 800000 in
theorem ok_Rests_init (T : Txt w K mg t) : FnOk P w K mg base (CXe P w) 1 t.f_Rests_init t.d_Rests_init ["self", "patience"] (sp_rsInit t) := by
  refine okX T.F_Rests_init sc_Rests_init (fun vs H Q E h => ?_) (fun cdv A outer s H vs Q E hr h => ?_)
  · obtain ⟨x, dx, pt, rfl, _⟩ := h; rfl
  · obtain ⟨x, dx, pt, rfl, hx, k⟩ := h
    refine ⟨_, (pss_cons (su_fldK (K := K) rfl (pu 0) (pu 1))
 (pss_one (su_fldK (K := K) rfl (pu 0) pe_dnewT))), ?_⟩
    simp only [tSeq]
    try simp_arith [hx, T.cl_Rests, T.n_Rests_patience]
    refine ⟨show 0 < 1000 by decide, ?_⟩
    try simp_arith [tDNewT]
    intro kn n_kn
    obtain ⟨ne, n_k⟩ := upd_none n_kn
    rw [upd_ne ne.symm]
    try simp_arith [upd_same, T.cl_Rests, T.n_Rests_known]
    refine ⟨show 1 < 1000 by decide, ?_⟩
    refine k kn _ (fun b o e n => ?_) n_k ?_ ?_
    · have n1 : b ≠ x := by simpa using n
      rw [upd_ne n1, upd_ne (ne_of_none e n_k), upd_ne n1]; exact e
    · rw [upd_same]; rfl
    · rw [upd_ne ne, upd_same]
inductive sp_next (t : Adr) (vs : List V) (H : Hp) (Q : VK) (E_ : XK) : Prop
  | mk (x p dx kn : Addr) (u w : Nat) (l : Option Bool) (r pt : Int) (z0 : vs = [.ref x, .ref p]) (z1 : H x = some (.ins t.c_Rests dx (rsF pt kn))) (z2 : StdAt t H p u w l r) (z3 : ∀ a H', Same H H' → H a = none → H' a = some (.lst (sidV (sidesS u w l r pt))) → Q (.ref a) H') : sp_next t vs H Q E_
theorem sc_Rests_next_sides : FnScope ["self", "stand"] ["self", "stand"] (defScope s_Rests_next_sides) := ⟨rfl, rfl, rfl, by decide +kernel, rfl, by decide +kernel, by decide +kernel⟩
set_option maxHeartbeats 800000 in
theorem ok_Rests_next_sides (T : Txt w K mg t) : FnOk P w K mg base (CXe P w) 2 t.f_Rests_next_sides t.d_Rests_next_sides ["self", "stand"] (sp_next t) := by
  have G_Stand_may_go := ok_Stand_may_go (P := P) (w := w) (base := base) T
  refine okX T.F_Rests_next_sides sc_Rests_next_sides (fun vs H Q E h => ?_) (fun cdv A outer s H vs Q E hr h => ?_)
  · obtain ⟨x, p, dx, kn, u, w, l, r, pt, rfl, _⟩ := h; rfl
  · obtain ⟨x, p, dx, kn, u, w', l, r, pt, rfl, hx, S, k⟩ := h
    refine ⟨_, (pss_one (ps_ret (pe_comp (fv := ["stand", "self"]) (ixs := [1, 0]) rfl (by decide +kernel) rfl rfl (pi_tupK (K := K) rfl (pe_tup (pa_cons pe_str (pa_cons pe_str pa_nil)))) (fun cl C s H fp => (pif_one (tu_val (eu_meth (pu 1) T.cl_Stand T.m_Stand_may_go G_Stand_may_go (hr.mono (by decide)) T.b_Stand_may_go passF (pa_cons (pu 0) (pa_cons (eu_fldK (K := K) rfl (pu 2)) pa_nil)))))) (fun cl C s H fp => (pu 0))))), ?_⟩
    try simp_arith [iTup]
    refine ⟨by decide, fun a n_a => ⟨a, rfl, ⟨_, .inl (.inl upd_same)⟩, ?_⟩⟩
    have s1 := same_new (o := HO.tup [V.str (Str.ofString "down"), V.str (Str.ofString "up")]) n_a
    have n_a0 := n_a
    have e_a : upd H a (.tup [V.str (Str.ofString "down"), V.str (Str.ofString "up")]) a = some (.tup [V.str (Str.ofString "down"), V.str (Str.ofString "up")]) := upd_same
    replace hx := s1 _ _ hx
    replace S := S.same s1
    generalize upd H a (.tup [V.str (Str.ofString "down"), V.str (Str.ofString "up")]) = H1 at *
    obtain ⟨dxs, q, h1, h2⟩ := S.ob
    refine comp_tup (xs := [V.str (Str.ofString "down"), V.str (Str.ofString "up")]) (fun v => mayS u w' l r pt (decide (v = V.str (Str.ofString "down")))) id e_a (by decide) ?_ ?_
    · intro v hv H2 s2 Rt Rf hRt hRf
      have hx2 := s2 _ _ hx
      have h12 := s2 _ _ h1
      obtain ⟨d, rfl⟩ : ∃ d, v = sid d := by
        simp only [List.mem_cons, List.not_mem_nil, or_false] at hv
        rcases hv with rfl | rfl
        · exact ⟨true, rfl⟩
        · exact ⟨false, rfl⟩
      try simp_arith [h12, sn_may, hx2, T.cl_Rests, T.n_Rests_patience, rs_pat]
      refine ⟨p, u, w', l, r, pt, d, rfl, S.same s2, ?_⟩
      have e : decide (sid d = V.str (Str.ofString "down")) = d := sid_is_d d
      rw [e] at hRt hRf
      try simp_arith [true_and]
      cases c : mayS u w' l r pt d with
      | true => rw [if_pos rfl]; exact hRt c _ s2
      | false => rw [if_neg (by decide)]; exact hRf c _ s2
    · intro H2 s2 D n_D
      refine k D _ ((s1.trans s2).trans (same_new n_D)) (same_was (s1.trans s2) n_D) ?_
      rw [upd_same]
      congr 2
      unfold sidesS sidV
      have e1 : decide (V.str (Str.ofString "down") = V.str (Str.ofString "down")) = true := by decide
      have e2 : decide (V.str (Str.ofString "up") = V.str (Str.ofString "down")) = false := by decide
      simp only [List.filter_cons, List.filter_nil, e1, e2, decide_true]
      cases mayS u w' l r pt true <;> cases mayS u w' l r pt false <;> rfl
end
theorem pow1 (m : Nat) : 1 ≤ 2 ^ m := Nat.one_le_two_pow
theorem pow2 (m : Nat) : 2 ^ (m + 1) = 2 * 2 ^ m := by rw [Nat.pow_succ]; omega
section
variable {P : Program} {w : World} {K : PySem.W.Frag} {mg : Str → Option Value} {base : Heap} {t : Adr}
inductive sp_rest (t : Adr) (m : Nat) (vs : List V) (H : Hp) (Q : VK) (E_ : XK) : Prop
  | mk (x p h dx kn : Addr) (n u w : Nat) (l : Bool) (r pt : Int) (kvs : List (List Key × V)) (z0 : vs = [.ref x, .ref p, .ref h]) (z1 : H x = some (.ins t.c_Rests dx (rsF pt kn))) (z2 : H kn = some (.dT kvs)) (z3 : KnOk n pt kvs) (z4 : StdAt t H p u w (some l) r) (z5 : H h = some (.lst (bls (List.replicate n (!l))))) (z6 : 1 ≤ n) (z7 : n ≤ 1000) (z8 : u + w + 1 = m) (z9 : kvs.length + 2 ^ m ≤ 10000000) (z10 : ∀ H' kvs', But [kn] H H' → H' kn = some (.dT kvs') → KnOk n pt kvs' → kvs'.length + 1 ≤ kvs.length + 2 ^ m → Q (.int (rst n pt u w l r)) H') : sp_rest t m vs H Q E_
inductive sp_costby (t : Adr) (m : Nat) (vs : List V) (H : Hp) (Q : VK) (E_ : XK) : Prop
  | mk (x p h dx kn : Addr) (hh : List Bool) (u w : Nat) (l : Option Bool) (r pt : Int) (d : Bool) (kvs : List (List Key × V)) (z0 : vs = [.ref x, sid d, .ref p, .ref h]) (z1 : H x = some (.ins t.c_Rests dx (rsF pt kn))) (z2 : H kn = some (.dT kvs)) (z3 : KnOk hh.length pt kvs) (z4 : StdAt t H p u w l r) (z5 : H h = some (.lst (bls hh))) (z6 : 1 ≤ hh.length) (z7 : hh.length ≤ 1000) (z8 : u + w = m) (z9 : mayS u w l r pt d = true) (z10 : kvs.length + 2 ^ m ≤ 10000000) (z11 : ∀ H' kvs', But [kn] H H' → H' kn = some (.dT kvs') → KnOk hh.length pt kvs' → kvs'.length + 1 ≤ kvs.length + 2 ^ m → Q (.int (cost1 hh d + rst hh.length pt (uB u d) (wB w d) d (rB l r d))) H') : sp_costby t m vs H Q E_
theorem may_own {u w : Nat} {l : Option Bool} {r p : Int} {d : Bool} (h : mayS u w l r p d = true) : (if d then w else u) ≠ 0 := by
  unfold mayS at h
  simp only [Bool.and_eq_true, decide_eq_true_eq] at h
  exact h.1
theorem sc_Rests_cost_by : FnScope ["self", "side", "stand", "high"] ["self", "side", "stand", "high"] (defScope s_Rests_cost_by) := ⟨rfl, rfl, rfl, by decide +kernel, rfl, by decide +kernel, by decide +kernel⟩
set_option maxHeartbeats 800000 in
theorem ok_Rests_cost_by (T : Txt w K mg t) {m : Nat} (G_Rests_rest_of : FnOk P w K mg base (CXe P w) (2 * m + 6) t.f_Rests_rest_of t.d_Rests_rest_of ["self", "stand", "high"] (sp_rest t m)) :
    FnOk P w K mg base (CXe P w) (2 * m + 7) t.f_Rests_cost_by t.d_Rests_cost_by ["self", "side", "stand", "high"] (sp_costby t m) := by
  have G_boat_cost := ok_boat_cost (P := P) (w := w) (base := base) T
  have G_Stand_behind := ok_Stand_behind (P := P) (w := w) (base := base) T
  have G_levels_behind := ok_levels_behind (P := P) (w := w) (base := base) T
  refine okX T.F_Rests_cost_by sc_Rests_cost_by (fun vs H Q E h => ?_) (fun cdv A outer s H vs Q E hr h => ?_)
  · obtain ⟨x, p, h, dx, kn, hh, u, w, l, r, pt, d, kvs, rfl, _⟩ := h; rfl
  · obtain ⟨x, p, h, dx, kn, hh, u, w', l, r, pt, d, kvs, rfl, hx, hk, ok, S, hl, n1, n2, em, hm, hz, k⟩ := h
    refine ⟨_, (pss_one (ps_ret (pe_op ou_add (eu_call G_boat_cost (hr.mono (by omega)) rfl T.g_boat_cost T.F_boat_cost.kp T.b_boat_cost passB (pa_cons (pu 3) (pa_cons (pu 1) pa_nil))) (eu_meth (pu 0) T.cl_Rests T.m_Rests_rest_of G_Rests_rest_of (hr.mono (by omega)) T.b_Rests_rest_of passB (pa_cons (eu_meth (pu 2) T.cl_Stand T.m_Stand_behind G_Stand_behind (hr.mono (by omega)) T.b_Stand_behind passB (pa_cons (pu 1) pa_nil)) (pa_cons (eu_call G_levels_behind (hr.mono (by omega)) rfl T.g_levels_behind T.F_levels_behind.kp T.b_levels_behind passB (pa_cons (pe_callB cu_len rfl T.z_len PySem.boot_len (pa_cons (pu 3) pa_nil)) (pa_cons (pu 1) pa_nil))) pa_nil)))))), ?_⟩
    try simp_arith [true_and]
    refine ⟨h, hh, d, rfl, hl, n1, n2, fun H1 s1 => ?_⟩
    have hk0 := hk
    replace hx := s1 _ _ hx
    replace hk := s1 _ _ hk
    replace hl := s1 _ _ hl
    replace S := S.same s1
    obtain ⟨dxs, q, h1, h2⟩ := S.ob
    try simp_arith [hx, rn_rest, h1, sn_behind]
    refine ⟨p, u, w', l, r, d, rfl, S, may_own hm, fun s H2 s2 n_s S2 => ?_⟩
    replace hx := s2 _ _ hx
    replace hk := s2 _ _ hk
    replace hl := s2 _ _ hl
    try simp_arith [hl, len_bls]
    refine ⟨_, d, rfl, by omega, by omega, fun b H3 s3 n_b eb => ?_⟩
    replace hx := s3 _ _ hx
    replace hk := s3 _ _ hk
    have e0 : ((hh.length : Nat) : Int).toNat = hh.length := by omega
    rw [e0] at eb
    have hp := may_pos hm
    refine ⟨x, s, b, dx, kn, hh.length, uB u d, wB w' d, d, rB l r d, pt, kvs, rfl, hx, hk, ok, S2.same s3, eb, n1, n2, by omega, hz, fun H4 kvs' b4 hk4 ok4 z4 => ?_⟩
    try simp_arith [true_and]
    exact k H4 kvs' ((But.same ((s1.trans s2).trans s3)).trans b4) hk4 ok4 z4
inductive PvR (t : Adr) (n : Nat) (pt : Int) (u w : Nat) (l : Bool) (r : Int) (kn a : Addr) (H1 : Hp) (z m : Nat) (i : Nat) (acc : List V) (H : Hp) : Prop
  | mk (kvs' : List (List Key × V)) (bk : But [kn] H1 H) (hk : H kn = some (.dT kvs')) (ok : KnOk n pt kvs') (len : kvs'.length + i ≤ z + i * 2 ^ m) (acc_eq : acc = ((sidesS u w (some l) r pt).take i).map fun d => V.int (cost1 (List.replicate n (!l)) d + rst n pt (uB u d) (wB w d) d (rB (some l) r d)))
theorem sides_le (u w : Nat) (l : Option Bool) (r p : Int) : (sidesS u w l r p).length ≤ 2 := by
  unfold sidesS
  exact Nat.le_trans (List.length_filter_le _ _) (by decide)
theorem sc_Rests_rest_of : FnScope ["self", "stand", "high", "mark", "ways"] ["self", "stand", "high"] (defScope s_Rests_rest_of) := ⟨rfl, rfl, rfl, by decide +kernel, rfl, by decide +kernel, by decide +kernel⟩
set_option maxHeartbeats 1600000 in
theorem ok_Rests_rest_one (T : Txt w K mg t) {m : Nat} (G_Rests_cost_by : FnOk P w K mg base (CXe P w) (2 * m + 7) t.f_Rests_cost_by t.d_Rests_cost_by ["self", "side", "stand", "high"] (sp_costby t m)) :
    FnOk P w K mg base (CXe P w) (2 * m + 8) t.f_Rests_rest_of t.d_Rests_rest_of ["self", "stand", "high"] (sp_rest t (m + 1)) := by
  have G_Stand_mark := ok_Stand_mark (P := P) (w := w) (base := base) T
  have G_Rests_next_sides := ok_Rests_next_sides (P := P) (w := w) (base := base) T
  refine okX T.F_Rests_rest_of sc_Rests_rest_of (fun vs H Q E h => ?_) (fun cdv A outer s H vs Q E hr h => ?_)
  · obtain ⟨x, p, h, dx, kn, n, u, w, l, r, pt, kvs, rfl, _⟩ := h; rfl
  · obtain ⟨x, p, h, dx, kn, n, u, w', l, r, pt, kvs, rfl, hx, hk, ok, S, hl, n1, n2, em, hz, k⟩ := h
    have hu1 := hu_of hr
    obtain ⟨dxs, q, h1, h2⟩ := S.ob
    have em' : u + w' = m := by omega
    rw [pow2] at hz k
    have p1 := pow1 m
    refine ⟨_, (pss_cons (ps_set (i := 3) sc_Rests_rest_of.nd rfl (Or.inl rfl) (eu_meth0 (pu 1) T.cl_Stand T.m_Stand_mark G_Stand_mark (hr.mono (by omega)) T.b_Stand_mark passB))
 (pss_cons (ps_if (tu_pc (pc_dnotin hu1 (pu 3) (eu_fldK (K := K) rfl (pu 0)))) (pss_cons (ps_setComp (i := 4) sc_Rests_rest_of.nd rfl rfl (fv := ["stand", "high", "self"]) (ixs := [1, 2, 0]) rfl (by decide +kernel) rfl rfl (pi_listK (K := K) rfl (eu_meth (pu 0) T.cl_Rests T.m_Rests_next_sides G_Rests_next_sides (hr.mono (by omega)) T.b_Rests_next_sides passB (pa_cons (pu 1) pa_nil))) (fun cl C s H fp => pif_nil) (fun cl C s H fp => (eu_meth (pu 3) T.cl_Rests T.m_Rests_cost_by G_Rests_cost_by (hr.mono (by omega)) T.b_Rests_cost_by passF (pa_cons (pu 0) (pa_cons (pu 1) (pa_cons (pu 2) pa_nil))))))
 (pss_one (ps_dput hu1 (eu_fldK (K := K) rfl (pu 0)) (pu 3) (eu_minD rfl rfl T.z_min (pa_cons (pu 4) pa_nil) (pk_cons pe_int pk_nil)) rfl))) pss_nil)
 (pss_one (ps_ret (pe_dget hu1 (eu_fldK (K := K) rfl (pu 0)) (pu 3) (fun _ _ => rfl)))))), ?_⟩
    rw [tSeq]
    generalize hR1 : tSeq _ _ = R1
    try simp_arith [h1, sn_mark]
    refine ⟨p, u, w', l, r, rfl, S, fun b n_b => ?_⟩
    have s1 := same_new (o := HO.tup ((keyM u w' l r).map kV)) n_b
    have e_b : upd H b (.tup ((keyM u w' l r).map kV)) b = some (.tup ((keyM u w' l r).map kV)) := upd_same
    replace hx := s1 _ _ hx
    replace hl := s1 _ _ hl
    replace S := S.same s1
    replace hk := s1 _ _ hk
    have b1 : But [kn] H (upd H b (.tup ((keyM u w' l r).map kV))) := But.same s1
    generalize upd H b (.tup ((keyM u w' l r).map kV)) = H1 at *
    have nx : x ≠ kn := ne_of hx hk (by intro z; cases z)
    have nb : b ≠ kn := ne_of e_b hk (by intro z; cases z)
    show R1 _ _ H1
    subst hR1
    rw [tSeq]
    generalize hR2 : tRet _ = R2
    -- the end: what is known is told
    have fin : ∀ D v5 H' kvs', D.rt = Q → But [kn] H1 H' → H' kn = some (.dT kvs') → KnOk n pt kvs' → kvs'.length + 1 ≤ kvs.length + 2 * 2 ^ m → valV kvs' (keyM u w' l r) ≠ none → R2 D [some (.ref x), some (.ref p), some (.ref h), some (.ref b), v5] H' := by
      intro D v5 H' kvs' hD b5 hk5 ok5 z5 nn
      subst hR2
      have hx5 := b5 _ _ hx (by simpa using nx)
      have eb5 := b5 _ _ e_b (by simpa using nb)
      try simp_arith [tDGet, hx5, T.cl_Rests, T.n_Rests_known, rs_kn]
      cases e : valV kvs' (keyM u w' l r) with
      | none => exact absurd e nn
      | some v =>
        have g := DGet.t hk5 eb5
        rw [e] at g
        have ev := ok5 _ _ _ _ _ e
        refine ⟨kn, v, rfl, g, ?_⟩
        rw [ev, hD]
        exact k H' kvs' (b1.trans b5) hk5 ok5 z5
    try simp_arith [tDNotIn, hx, T.cl_Rests, T.n_Rests_known, rs_kn]
    refine ⟨kn, valV kvs (keyM u w' l r), rfl, DGet.t hk e_b, ?_⟩
    try simp_arith [true_and]
    cases e : valV kvs (keyM u w' l r) with
    | some v =>
      rw [if_neg (by simp)]
      exact fin _ _ _ kvs rfl (But.refl _ _) hk ok (by omega) (by rw [e]; simp)
    | none =>
      rw [if_pos (by simp)]
      simp only [tSeq]
      try simp_arith [iList, hx, rn_next]
      refine ⟨x, p, dx, kn, u, w', some l, r, pt, rfl, hx, S, fun a H2 s2 n_a e_a => ⟨a, rfl, ⟨_, .inl (.inl e_a)⟩, ?_⟩⟩
      have hx1 := hx
      have e_b1 := e_b
      replace hx := s2 _ _ hx
      replace hl := s2 _ _ hl
      replace S := S.same s2
      replace hk := s2 _ _ hk
      have na : a ≠ kn := ne_of e_a hk (by intro z; cases z)
      have sl := sides_le u w' (some l) r pt
      refine comp_inv (xs := sidV (sidesS u w' (some l) r pt)) (PvR t n pt u w' l r kn a H2 kvs.length m) ?_ ⟨kvs, But.refl _ _, hk, ok, by omega, rfl⟩ ?_ ?_ ?_
      · rw [len_sidV]; exact Nat.lt_of_le_of_lt sl (by decide)
      · rintro i acc H3 ⟨kvs', b3, hk3, ok3, z3, rfl⟩
        refine ⟨.inl (.inl (b3 _ _ e_a (by simpa using na))), ?_⟩
        rw [List.length_map]; exact List.length_take_le _ _
      · rintro i v acc H3 hv ⟨kvs', b3, hk3, ok3, z3, rfl⟩ Rt Rf hRt hRf
        obtain ⟨d, hd, rfl⟩ := sid_at hv
        have hi : i < 2 := by have := (List.getElem?_eq_some_iff.mp hd).1; omega
        have hx3 := b3 _ _ hx (by simpa using nx)
        have nh : h ≠ kn := ne_of hl hk (by intro z; cases z)
        have hl3 := b3 _ _ hl (by simpa using nh)
        try simp_arith [tAll, hx3, rn_cost]
        have hmay := sides_mem (List.mem_of_getElem? hd)
        refine ⟨x, p, h, dx, kn, List.replicate n (!l), u, w', some l, r, pt, d, kvs', rfl, hx3, hk3, by rw [rep_len]; exact ok3, S.but hk b3, hl3, by rw [rep_len]; exact n1, by rw [rep_len]; exact n2, em', hmay, ?_, fun H4 kvs4 b4 hk4 ok4 z4 => ?_⟩
        · have : i = 0 ∨ i = 1 := by omega
          rcases this with rfl | rfl <;> omega
        · rw [rep_len] at ok4 ⊢
          refine hRt _ _ ⟨kvs4, b3.trans b4, hk4, ok4, ?_, ?_⟩
          · rw [Nat.succ_mul]; omega
          · rw [List.take_succ, hd]; simp
      · rintro acc H3 ⟨kvs', b3, hk3, ok3, z3, rfl⟩ D n_D
        rw [len_sidV] at z3 ⊢
        rw [List.take_length]
        have s3 := same_new (o := HO.lst ((sidesS u w' (some l) r pt).map fun d => V.int (cost1 (List.replicate n (!l)) d + rst n pt (uB u d) (wB w' d) d (rB (some l) r d)))) n_D
        have e_D : upd H3 D (HO.lst ((sidesS u w' (some l) r pt).map fun d => V.int (cost1 (List.replicate n (!l)) d + rst n pt (uB u d) (wB w' d) d (rB (some l) r d)))) D = some (HO.lst ((sidesS u w' (some l) r pt).map fun d => V.int (cost1 (List.replicate n (!l)) d + rst n pt (uB u d) (wB w' d) d (rB (some l) r d)))) := upd_same
        have b4 : But [kn] H1 (upd H3 D (HO.lst ((sidesS u w' (some l) r pt).map fun d => V.int (cost1 (List.replicate n (!l)) d + rst n pt (uB u d) (wB w' d) d (rB (some l) r d))))) := ((But.same s2).trans b3).trans (But.same s3)
        have hk4 := s3 _ _ hk3
        have zc : (sidesS u w' (some l) r pt).length = 0 ∨ (sidesS u w' (some l) r pt).length = 1 ∨ (sidesS u w' (some l) r pt).length = 2 := by omega
        have z4 : kvs'.length + 2 ≤ kvs.length + 2 * 2 ^ m := by
          rcases zc with e' | e' | e' <;> rw [e'] at z3 <;> omega
        have hns : ((sidesS u w' (some l) r pt).map fun d => V.int (cost1 (List.replicate n (!l)) d + rst n pt (uB u d) (wB w' d) d (rB (some l) r d))) = ((sidesS u w' (some l) r pt).map fun d => cost1 (List.replicate n (!l)) d + rst n pt (uB u d) (wB w' d) d (rB (some l) r d)).map V.int := by
          rw [List.map_map]; rfl
        rw [hns] at e_D b4 hk4 ⊢
        clear hns
        have er := rst_eq n pt u w' l r
        generalize (sidesS u w' (some l) r pt).map (fun d => cost1 (List.replicate n (!l)) d + rst n pt (uB u d) (wB w' d) d (rB (some l) r d)) = ns at *
        generalize hH4 : upd H3 D (HO.lst (List.map V.int ns)) = H4 at e_D b4 hk4 ⊢
        have hx4 := b4 _ _ hx1 (by simpa using nx)
        have e_b4 := b4 _ _ e_b1 (by simpa using nb)
        have put := DPut.t (v := V.int (rst n pt u w' l r)) hk4 e_b4 (Nat.lt_of_lt_of_le (by omega : kvs'.length < 10000000) (by decide))
        have fin2 : ∀ D0, D0.rt = Q → R2 D0 [some (.ref x), some (.ref p), some (.ref h), some (.ref b), some (.ref D)] (upd H4 kn (.dT (putK kvs' (keyM u w' l r) (V.int (rst n pt u w' l r))))) := fun D0 hD =>
          fin D0 _ _ _ hD (b4.trans (But.upd (List.mem_singleton.mpr rfl))) upd_same (ok3.put u w' l r) (by have := length_putK kvs' (keyM u w' l r) (V.int (rst n pt u w' l r)); omega) (by rw [valV_put, if_pos rfl]; simp)
        try simp_arith [sDPut, tMinD, minDU, e_D]
        refine ⟨ns, rfl, fun c => ?_, fun c => ?_⟩
        · have e0 : rst n pt u w' l r = 0 := by rw [er, c]; rfl
          rw [e0] at put fin2
          try simp_arith [hx4, T.cl_Rests, T.n_Rests_known, rs_kn]
          exact ⟨kn, _, rfl, put, fin2 _ rfl⟩
        · rw [← er]
          try simp_arith [hx4, T.cl_Rests, T.n_Rests_known, rs_kn]
          exact ⟨kn, _, rfl, put, fin2 _ rfl⟩
theorem ok_Rests_rest_of (T : Txt w K mg t) : ∀ m : Nat, FnOk P w K mg base (CXe P w) (2 * m + 6) t.f_Rests_rest_of t.d_Rests_rest_of ["self", "stand", "high"] (sp_rest t m)
  | 0 => okX T.F_Rests_rest_of sc_Rests_rest_of (fun vs H Q E h => by obtain ⟨x, p, h, dx, kn, n, u, w, l, r, pt, kvs, rfl, _⟩ := h; rfl) (fun cdv A outer s H vs Q E hr h => by
      obtain ⟨x, p, h, dx, kn, n, u, w', l, r, pt, kvs, rfl, hx, hk, ok, S, hl, n1, n2, em, _⟩ := h
      omega)
  | m + 1 => ok_Rests_rest_one T (ok_Rests_cost_by T (ok_Rests_rest_of T m))
end
theorem kn_nil (n : Nat) (pt : Int) : KnOk n pt [] := fun _ _ _ _ _ e => by rw [valV_nil] at e; cases e
abbrev qB : Str := ("Rests.best_side" : Str) ++ ".<locals>." ++ "<lambda>"
abbrev TabB (t : Adr) (H : Hp) : Prop := Tab t.tb 262 47 qB H
theorem TabB.but {t : Adr} {H H' : Hp} {xs : List Addr} (h : TabB t H) (b : But xs H H') (n : ∀ x ∈ xs, (∃ kvs, H x = some (.dT kvs)) ∨ (∃ ys, H x = some (.lst ys)) ∨ H x = none) : TabB t H' := by
  have ne : ∀ (c : Addr) (o : HO), H c = some o → (∀ kvs, o ≠ .dT kvs) → (∀ ys, o ≠ .lst ys) → c ∉ xs := fun c o e h1 h2 hc => by
    rcases n c hc with ⟨_, z⟩ | ⟨_, z⟩ | z
    · rw [e] at z; exact h1 _ (Option.some.inj z)
    · rw [e] at z; exact h2 _ (Option.some.inj z)
    · rw [e] at z; cases z
  rcases h with h | ⟨c, h1, h2⟩
  · exact .inl (b _ _ h (ne _ _ h (fun _ z => nomatch z) fun _ z => nomatch z))
  · exact .inr ⟨c, b _ _ h1 (ne _ _ h1 (fun _ z => nomatch z) fun _ z => nomatch z), b _ _ h2 (ne _ _ h2 (fun _ z => nomatch z) fun _ z => nomatch z)⟩
theorem TabB.same {t : Adr} {H H' : Hp} (h : TabB t H) (s : Same H H') : TabB t H' := h.but (xs := []) (But.same s) fun _ z => nomatch z
theorem tab_tb {t : Adr} {H : Hp} (h : TabB t H) : ∃ ps, H t.tb = some (.tbl ps) := by
  rcases h with h | ⟨c, h, _⟩ <;> exact ⟨_, h⟩
theorem pick_snoc (f : Bool → Int) {l : List Bool} (h : l ≠ []) (d : Bool) : pick f (l ++ [d]) = if f d < f (pick f l) then d else pick f l := by
  cases l with
  | nil => exact absurd rfl h
  | cons a r =>
    show List.foldl _ a (r ++ [d]) = _
    rw [List.foldl_append]
    rfl
inductive PvM (hh : List Bool) (pt : Int) (u w : Nat) (l : Option Bool) (r : Int) (kn : Addr) (H3 : Hp) (z m : Nat) (i : Nat) (b : V) (kb : Int) (H : Hp) : Prop
  | mk (kvs' : List (List Key × V)) (d : Bool) (eb : b = sid d) (ek : kb = keyS hh pt u w l r d) (ed : d = pick (keyS hh pt u w l r) ((sidesS u w l r pt).take i)) (bk : But [kn] H3 H) (hk : H kn = some (.dT kvs')) (ok : KnOk hh.length pt kvs') (len : kvs'.length + i ≤ z + i * 2 ^ m)
section
variable {P : Program} {w : World} {K : PySem.W.Frag} {mg : Str → Option Value} {base : Heap} {t : Adr}
inductive sp_empty (t : Adr) (vs : List V) (H : Hp) (Q : VK) (E_ : XK) : Prop
  | mk (p : Addr) (u w : Nat) (l : Option Bool) (r : Int) (z0 : vs = [.ref p]) (z1 : StdAt t H p u w l r) (z2 : Q (.bl (decide (u + w = 0))) H) : sp_empty t vs H Q E_
theorem sc_Stand_is_empty : FnScope ["self"] ["self"] (defScope s_Stand_is_empty) := ⟨rfl, rfl, rfl, by decide +kernel, rfl, by decide +kernel, by decide +kernel⟩
set_option maxHeartbeats 800000 in
theorem ok_Stand_is_empty (T : Txt w K mg t) : FnOk P w K mg base (CXe P w) 1 t.f_Stand_is_empty t.d_Stand_is_empty ["self"] (sp_empty t) := by
  refine okX T.F_Stand_is_empty sc_Stand_is_empty (fun vs H Q E h => ?_) (fun cdv A outer s H vs Q E hr h => ?_)
  · obtain ⟨p, u, w, l, r, rfl, _⟩ := h; rfl
  · obtain ⟨p, u, w', l, r, rfl, S, k⟩ := h
    have hu1 := hu_of hr
    obtain ⟨dx, q, h1, h2⟩ := S.ob
    refine ⟨_, (pss_one (ps_ret (eu_and (pe_cmpR (ou_eq hr.units) (eu_dget hu1 (eu_fldK (K := K) rfl (pu 0)) pe_str) pe_int (nomark _)) (pe_one (pe_cmpR (ou_eq hr.units) (eu_dget hu1 (eu_fldK (K := K) rfl (pu 0)) pe_str) pe_int (nomark _)))))), ?_⟩
    try simp_arith [h1, T.cl_Stand, T.n_Stand_left, st_left, h2, lf_up, lf_dn]
    by_cases c1 : u = 0
    · subst c1
      by_cases c2 : w' = 0
      · subst c2; simpa using k
      · simp [c2] at k ⊢; exact k
    · simp [c1] at k ⊢; exact k
inductive sp_bside (t : Adr) (m : Nat) (vs : List V) (H : Hp) (Q : VK) (E_ : XK) : Prop
  | mk (x p h dx kn : Addr) (hh : List Bool) (u w : Nat) (l : Option Bool) (r pt : Int) (kvs : List (List Key × V)) (z0 : vs = [.ref x, .ref p, .ref h]) (z1 : H x = some (.ins t.c_Rests dx (rsF pt kn))) (z2 : H kn = some (.dT kvs)) (z3 : KnOk hh.length pt kvs) (z4 : StdAt t H p u w l r) (z5 : H h = some (.lst (bls hh))) (z6 : 1 ≤ hh.length) (z7 : hh.length ≤ 1000) (z8 : u + w = m) (z9 : u + w ≠ 0) (z10 : kvs.length + 2 * 2 ^ m ≤ 10000000) (z11 : TabB t H) (z12 : ∀ H' kvs', But [kn, t.tb] H H' → H' kn = some (.dT kvs') → KnOk hh.length pt kvs' → kvs'.length ≤ kvs.length + 2 * 2 ^ m → TabB t H' → Q (sid (bstD hh pt u w l r)) H') : sp_bside t m vs H Q E_
theorem sc_Rests_best_side : FnScope ["self", "stand", "high"] ["self", "stand", "high"] (defScope s_Rests_best_side) := ⟨rfl, rfl, rfl, by decide +kernel, rfl, by decide +kernel, by decide +kernel⟩
set_option maxHeartbeats 1600000 in
theorem ok_Rests_best_side (T : Txt w K mg t) (m : Nat) : FnOk P w K mg base (CXe P w) (2 * m + 10) t.f_Rests_best_side t.d_Rests_best_side ["self", "stand", "high"] (sp_bside t m) := by
  have G_Rests_next_sides := ok_Rests_next_sides (P := P) (w := w) (base := base) T
  have G_Rests_cost_by := ok_Rests_cost_by (m := m) T (ok_Rests_rest_of (P := P) (w := w) (base := base) T m)
  refine okXc T.F_Rests_best_side sc_Rests_best_side (fun vs H Q E h => ?_) (fun A outer s H vs Q E hr h => ?_)
  · obtain ⟨x, p, h, dx, kn, hh, u, w, l, r, pt, kvs, rfl, _⟩ := h; rfl
  · obtain ⟨x, p, h, dx, kn, hh, u, w', l, r, pt, kvs, rfl, hx, hk, ok, S, hl, n1, n2, em, h0, hz, tab, k⟩ := h
    have p1 := pow1 m
    refine ⟨_, (pss_one (ps_ret (pe_minLam (x := "side") (fv := ["stand", "high", "self"]) (ixs := [1, 2, 0]) rfl rfl T.z_min (pa_cons (eu_meth (pu 0) T.cl_Rests T.m_Rests_next_sides G_Rests_next_sides (hr.mono (by omega)) T.b_Rests_next_sides passB (pa_cons (pu 1) pa_nil)) pa_nil) T.L_best hr rfl rfl rfl rfl (fun _ _ _ _ _ _ => rfl) rfl rfl rfl (fun cl f cd s H hr2 => (eu_meth (pu 3) T.cl_Rests T.m_Rests_cost_by G_Rests_cost_by (hr2.mono (by omega)) T.b_Rests_cost_by passF (pa_cons (pu 0) (pa_cons (pu 1) (pa_cons (pu 2) pa_nil)))))))), ?_⟩
    try simp_arith [tMinLam, hx, rn_next]
    refine ⟨x, p, dx, kn, u, w', l, r, pt, rfl, hx, S, fun a H2 s2 n_a e_a => ?_⟩
    have sl := sides_le u w' l r pt
    have sne := sides_ne (l := l) (r := r) (p := pt) h0
    have sl0 : 0 < (sidesS u w' l r pt).length := List.length_pos_iff.mpr sne
    refine ⟨a, _, rfl, e_a, by rw [len_sidV]; exact sl0, by rw [len_sidV]; omega, tab.same s2, fun c H3 b3 t3 el3 => ?_⟩
    obtain ⟨ps, etb⟩ := tab_tb (tab.same s2)
    have n_of : ∀ (y : Addr) (o : HO), H2 y = some o → (∀ q, o ≠ .tbl q) → y ∉ [t.tb] := fun y o e q z => by
      rw [List.mem_singleton.mp z, etb] at e
      exact q _ (Option.some.inj e).symm
    have hx3 := b3 _ _ (s2 _ _ hx) (n_of _ _ (s2 _ _ hx) fun _ z => nomatch z)
    have hk3 := b3 _ _ (s2 _ _ hk) (n_of _ _ (s2 _ _ hk) fun _ z => nomatch z)
    have hl3 := b3 _ _ (s2 _ _ hl) (n_of _ _ (s2 _ _ hl) fun _ z => nomatch z)
    have S3 : StdAt t H3 p u w' l r := by
      obtain ⟨dxs, q, h1, h2⟩ := (S.same s2).ob
      exact ⟨dxs, q, b3 _ _ h1 (n_of _ _ h1 fun _ z => nomatch z), b3 _ _ h2 (n_of _ _ h2 fun _ z => nomatch z)⟩
    have na : a ≠ kn := ne_of el3 hk3 (by intro z; cases z)
    have nx : x ≠ kn := ne_of hx3 hk3 (by intro z; cases z)
    have nh : h ≠ kn := ne_of hl3 hk3 (by intro z; cases z)
    have nc : c ≠ kn := ne_of t3.2 hk3 (by intro z; cases z)
    have nt : t.tb ≠ kn := ne_of t3.1 hk3 (by intro z; cases z)
    have turn : ∀ (i : Nat) (d : Bool) (H' : Hp) (kvs' : List (List Key × V)) (Q' : VK), (sidesS u w' l r pt)[i]? = some d → But [kn] H3 H' → H' kn = some (.dT kvs') → KnOk hh.length pt kvs' → kvs'.length + 2 ^ m ≤ 10000000 →
        (∀ H4 kvs4, But [kn] H3 H4 → H4 kn = some (.dT kvs4) → KnOk hh.length pt kvs4 → kvs4.length + 1 ≤ kvs'.length + 2 ^ m → Q' (.int (keyS hh pt u w' l r d)) H4) →
        sp_costby t m [.ref x, sid d, .ref p, .ref h] H' Q' (fun _ _ _ => False) := by
      intro i d H' kvs' Q' hd b' hk' ok' z' kk
      have hmay := sides_mem (List.mem_of_getElem? hd)
      exact ⟨x, p, h, dx, kn, hh, u, w', l, r, pt, d, kvs', rfl, b' _ _ hx3 (by simpa using nx), hk', ok', S3.but hk3 b', b' _ _ hl3 (by simpa using nh), n1, n2, em, hmay, z', fun H4 kvs4 b4 hk4 ok4 z4 => kk H4 kvs4 (b'.trans b4) hk4 ok4 z4⟩
    refine ⟨PvM hh pt u w' l r kn H3 kvs.length m, ?_, ?_, ?_, ?_⟩
    · rintro i b kb H' ⟨kvs', d, _, _, _, b', _, _, _⟩
      exact ⟨b' _ _ el3 (by simpa using na), b' _ _ t3.2 (by simpa using nc)⟩
    · intro y hy
      obtain ⟨d, hd, rfl⟩ := sid_at hy
      try simp_arith [cx_lam, hx3, rn_cost]
      refine turn 0 d H3 kvs _ hd (But.refl _ _) hk3 ok (by omega) fun H4 kvs4 b4 hk4 ok4 z4 => ?_
      refine ⟨_, rfl, kvs4, d, rfl, rfl, ?_, b4, hk4, ok4, by omega⟩
      cases hs : sidesS u w' l r pt with
      | nil => rw [hs] at hd; cases hd
      | cons d' rr => rw [hs] at hd; cases hd; rfl
    · rintro i y b kb H' hi hy ⟨kvs', d0, rfl, rfl, ed, b', hk', ok', z'⟩
      obtain ⟨d, hd, rfl⟩ := sid_at hy
      have hi2 : i < (sidesS u w' l r pt).length := (List.getElem?_eq_some_iff.mp hd).1
      have hi1 : i = 1 := by omega
      subst hi1
      have hx4 := b' _ _ hx3 (by simpa using nx)
      try simp_arith [cx_lam, hx4, rn_cost]
      refine turn 1 d H' kvs' _ hd b' hk' ok' (by omega) fun H4 kvs4 b4 hk4 ok4 z4 => ?_
      have et : (sidesS u w' l r pt).take (1 + 1) = (sidesS u w' l r pt).take 1 ++ [d] := by rw [List.take_succ, hd]; rfl
      have tne : (sidesS u w' l r pt).take 1 ≠ [] := by
        intro z
        have e := congrArg List.length z
        rw [List.length_take, List.length_nil] at e
        omega
      have ep := pick_snoc (keyS hh pt u w' l r) tne d
      rw [← et, ← ed] at ep
      refine ⟨_, rfl, fun c => ?_, fun c => ?_⟩
      · exact ⟨kvs4, d, rfl, rfl, by rw [ep, if_pos c], b4, hk4, ok4, by omega⟩
      · exact ⟨kvs4, d0, rfl, rfl, by rw [ep, if_neg c], b4, hk4, ok4, by omega⟩
    · rintro b kb H' ⟨kvs', d, rfl, rfl, ed, b', hk', ok', z'⟩
      rw [len_sidV, List.take_length] at ed
      rw [len_sidV] at z'
      subst ed
      have zc : (sidesS u w' l r pt).length = 1 ∨ (sidesS u w' l r pt).length = 2 := by omega
      have ztb : TabB t H' := .inr ⟨c, b' _ _ t3.1 (by simpa using nt), b' _ _ t3.2 (by simpa using nc)⟩
      refine k H' kvs' (fun y o e n => ?_) hk' ok' (by rcases zc with e' | e' <;> rw [e'] at z' <;> omega) ztb
      simp only [List.mem_cons, List.not_mem_nil, or_false, not_or] at n
      exact b' _ _ (b3 _ _ (s2 _ _ e) (by simpa using n.2)) (by simpa using n.1)
inductive PvBst (t : Adr) (lv : List Bool) (a x dx kn o : Addr) (u0 w0 : Nat) (pt : Int) (H0 : Hp) (m : Nat) (σ : St) (H : Hp) : Prop
  | mk (p h : Addr) (hh S : List Bool) (u w : Nat) (l : Option Bool) (r : Int) (kvs : List (List Key × V)) (v8 : Option V) (eσ : σ = [some (.ref a), some (.int u0), some (.int w0), some (.int pt), some (.ref h), some (.ref x), some (.ref p), some (.ref o), v8]) (em : u + w = m) (hm : m ≤ 16) (bk : But [t.tb] H0 H) (hx : H x = some (.ins t.c_Rests dx (rsF pt kn))) (hk : H kn = some (.dT kvs)) (ok : KnOk lv.length pt kvs) (St : StdAt t H p u w l r) (hl : H h = some (.lst (bls hh))) (hlen : hh.length = lv.length) (ho : H o = some (.lst (sidV S))) (nho : h ≠ o) (oS : S.length + m ≤ 1000) (eS : S ++ bst pt hh u w l r = bst pt lv u0 w0 none 0) (len : kvs.length + 4 * 2 ^ m ≤ 10000000) (tab : TabB t H)
inductive sp_best (t : Adr) (vs : List V) (H : Hp) (Q : VK) (E : XK) : Prop
  | mk (a : Addr) (lv : List Bool) (u w : Nat) (pt : Int) (z0 : vs = [.ref a, .int u, .int w, .int pt]) (z1 : H a = some (.lst (bls lv))) (z2 : lv.length ≤ 1000) (z3 : u + w ≤ 16) (z4 : TabB t H) (z5 : ((lv.length < 1 ∨ 8 < lv.length) → ∀ H', Same H H' → E (.ref t.c_BadFlight) none H')) (z6 : ((1 ≤ lv.length ∧ lv.length ≤ 8) → ∀ o H', But [t.tb] H H' → H o = none → H' o = some (.lst (sidV (bst pt lv u w none 0))) → TabB t H' → Q (.ref o) H')) : sp_best t vs H Q E
inductive SpAnyB (t : Adr) (b : Nat) (vs : List V) (H : Hp) (Q : VK) (E : XK) : Prop
  | mk (m : Nat) (hm : m ≤ b) (h : sp_bside t m vs H Q E)
theorem ok_best_any (T : Txt w K mg t) (b : Nat) : FnOk P w K mg base (CXe P w) (2 * b + 10) t.f_Rests_best_side t.d_Rests_best_side ["self", "stand", "high"] (SpAnyB t b) :=
  ⟨fun vs H Q E ⟨m, hm, h⟩ => (ok_Rests_best_side (P := P) (w := w) (base := base) T m).len vs H Q E h, fun A outer s H args us vs Q E hr he hb hv ⟨m, hm, h⟩ => (ok_Rests_best_side T m).run A outer s H args us vs Q E (hr.mono (by omega)) he hb hv h⟩
theorem sc_best : FnScope ["levels", "ups", "downs", "patience", "high", "rests", "stand", "order", "side"] ["levels", "ups", "downs", "patience"] (defScope s_best) := ⟨rfl, rfl, rfl, by decide +kernel, rfl, by decide +kernel, by decide +kernel⟩
set_option maxHeartbeats 800000 in
theorem ok_best (T : Txt w K mg t) : FnOk P w K mg base (CXe P w) 43 t.f_best t.d_best ["levels", "ups", "downs", "patience"] (sp_best t) := by
  have G_init := ok_init (P := P) (w := w) (base := base) T
  have G_levels := ok_levels (P := P) (w := w) (base := base) T
  have G_Rests_init := ok_Rests_init (P := P) (w := w) (base := base) T
  have G_Stand_init := ok_Stand_init (P := P) (w := w) (base := base) T
  have G_Stand_is_empty := ok_Stand_is_empty (P := P) (w := w) (base := base) T
  have G_Stand_behind := ok_Stand_behind (P := P) (w := w) (base := base) T
  have G_levels_behind := ok_levels_behind (P := P) (w := w) (base := base) T
  refine okX T.F_best sc_best (fun vs H Q E h => ?_) (fun cdv A outer s H vs Q E hr h => ?_)
  · obtain ⟨a, lv, u, w, pt, rfl, _⟩ := h; rfl
  · obtain ⟨a, lv, u, w', pt, rfl, hl, hz, hm, tab, k1, k⟩ := h
    have G_Rests_best_side := ok_best_any (P := P) (w := w) (base := base) T 16
    refine ⟨_, (pss_cons (ps_set (i := 4) sc_best.nd rfl (Or.inl rfl) (eu_meth0 (eu_make T.mkc G_init (hr.mono (by omega)) rfl T.g_Flight T.b_init passB (pa_cons (pu 0) pa_nil)) T.cl T.m_levels G_levels (hr.mono (by omega)) T.b_levels passB))
 (pss_cons (ps_set (i := 5) sc_best.nd rfl (Or.inl rfl) (eu_make T.mkc_Rests G_Rests_init (hr.mono (by omega)) rfl T.g_Rests T.b_Rests_init passB (pa_cons (pu 3) pa_nil)))
 (pss_cons (ps_set (i := 6) sc_best.nd rfl (Or.inl rfl) (eu_make T.mkc_Stand G_Stand_init (hr.mono (by omega)) rfl T.g_Stand T.b_Stand_init passB (pa_cons (pu 1) (pa_cons (pu 2) (pa_cons pe_non (pa_cons pe_int pa_nil))))))
 (pss_cons (ps_set (i := 7) sc_best.nd rfl (Or.inl rfl) (pe_lst pa_nil))
 (pss_cons (ps_while ownB (pt_not (tu_val (eu_meth0 (pu 6) T.cl_Stand T.m_Stand_is_empty G_Stand_is_empty (hr.mono (by omega)) T.b_Stand_is_empty passB))) (pss_cons (ps_set (i := 8) sc_best.nd rfl (Or.inl rfl) (eu_meth (pu 5) T.cl_Rests T.m_Rests_best_side G_Rests_best_side (hr.mono (by omega)) T.b_Rests_best_side passB (pa_cons (pu 6) (pa_cons (pu 4) pa_nil))))
 (pss_cons (ps_expr (eu_lm PySem.F.slot_list_append PySem.F.type_list_append mu_append (pu 7) (pa_cons (pu 8) pa_nil)))
 (pss_cons (ps_set (i := 6) sc_best.nd rfl (Or.inl rfl) (eu_meth (pu 6) T.cl_Stand T.m_Stand_behind G_Stand_behind (hr.mono (by omega)) T.b_Stand_behind passB (pa_cons (pu 8) pa_nil)))
 (pss_one (ps_set (i := 4) sc_best.nd rfl (Or.inl rfl) (eu_call G_levels_behind (hr.mono (by omega)) rfl T.g_levels_behind T.F_levels_behind.kp T.b_levels_behind passB (pa_cons (pe_callB cu_len rfl T.z_len PySem.boot_len (pa_cons (pu 4) pa_nil)) (pa_cons (pu 8) pa_nil)))))))))
 (pss_one (ps_ret (pu 7)))))))), ?_⟩
    refine seqG fun R0 hR0 => ?_
    try simp_arith [true_and]
    intro y dy ny ndy ndyy
    refine mk8_flight ny ndy ndyy hl hz k1 fun lo hi A H3 eA frA s3 FA => ⟨rfl, ?_⟩
    subst eA
    replace k := k ⟨lo, hi⟩
    obtain ⟨⟨dA, fA⟩, _⟩ := id FA
    try simp_arith [fA, fn_summit, fn_is_chamber, fn_can_give, fn_can_take, fn_give, fn_take, fn_let, fn_levels, fn_drawn, fn_out, fn_boats, fn_waiting, fn_through, fn_side, fn_place, fn_come, fn_sail, fn_is_level, fn_leave, fn_enter]
    refine ⟨A, _, rfl, FA, fun h n_h => ?_⟩
    show R0 _ _ (upd H3 h (.lst (bls lv)))
    have s4 := s3.trans (same_new (o := HO.lst (bls lv)) n_h)
    have sm_H4 := same_new (o := HO.lst (bls lv)) n_h
    have e_h : upd H3 h (HO.lst (bls lv)) h = some (HO.lst (bls lv)) := upd_same
    generalize upd H3 h (HO.lst (bls lv)) = H4 at *
    clear FA fA sm_H4 s3 n_h
    subst hR0
    refine seqG fun R0 hR0 => ?_
    try simp_arith [true_and]
    intro x dx n_x n_dx ne
    refine ⟨x, dx, pt, rfl, upd_same, fun kn H5 b5 n_kn e_x e_kn => ⟨rfl, ?_⟩⟩
    obtain ⟨_, n_kn⟩ := upd_none n_kn
    obtain ⟨_, n_kn⟩ := upd_none n_kn
    have n_kn0 := same_was s4 n_kn
    have s5 : Same H4 H5 := fun b o e => by
      have m1 : b ≠ x := ne_of_none e n_x
      have m2 : b ≠ dx := ne_of_none e n_dx
      exact b5 b o (by rw [upd_ne m1, upd_ne m2]; exact e) (by simpa using m1)
    replace e_h := s5 _ _ e_h
    have s45 := s4.trans s5
    subst hR0
    refine seqG fun R0 hR0 => ?_
    try simp_arith [true_and]
    intro p dx2 n_p n_dx2 ne2
    refine ⟨p, dx2, u, w', none, 0, rfl, upd_same, fun H6 b6 S6 => ⟨rfl, ?_⟩⟩
    have s6 : Same H5 H6 := fun b o e => by
      have m1 : b ≠ p := ne_of_none e n_p
      have m2 : b ≠ dx2 := ne_of_none e n_dx2
      exact b6 b o (by rw [upd_ne m1, upd_ne m2]; exact e) (by simpa using m1)
    replace e_h := s6 _ _ e_h
    replace e_x := s6 _ _ e_x
    replace e_kn := s6 _ _ e_kn
    have s456 := s45.trans s6
    subst hR0
    refine seqG fun R0 hR0 => ?_
    try simp_arith [true_and]
    refine ⟨by decide, fun o n_o => ?_⟩
    have n_o0 := same_was s456 n_o
    have n_ho : h ≠ o := ne_of_none e_h n_o
    have s7 := s456.trans (same_new (o := HO.lst []) n_o)
    have sm7 := same_new (o := HO.lst []) n_o
    replace S6 := S6.same sm7
    have sm_H7 := same_new (o := HO.lst []) n_o
    have e_o : upd H6 o (HO.lst []) o = some (HO.lst []) := upd_same
    replace e_h := sm_H7 _ _ e_h
    replace e_x := sm_H7 _ _ e_x
    replace e_kn := sm_H7 _ _ e_kn
    generalize upd H6 o (HO.lst []) = H7 at *
    clear b5 b6 s4 s45 s456 s5 s6 sm_H7 frA
    subst hR0
    refine seqG fun R0 hR0 => ?_
    have p16 : 2 ^ (u + w') ≤ 65536 := by
      have := Nat.pow_le_pow_right (show 0 < 2 by decide) hm
      have e : 2 ^ 16 = 65536 := by decide
      omega
    refine ⟨PvBst t lv a x dx kn o u w' pt H, ⟨u + w', p, h, lv, [], u, w', none, 0, [], none, rfl, rfl, hm, But.same s7, e_x, e_kn, kn_nil _ _, S6, e_h, rfl, e_o, n_ho, by simp; omega, rfl, by simp; omega, tab.same s7⟩, ?_⟩
    rintro m σ H8 ⟨p, h, hh, S, u1, w1, l, r, kvs, v8, rfl, em, hm8, b8, hx8, hk8, ok8, St8, hl8, hlen, ho8, nho, oS, eS, len8, tab8⟩
    obtain ⟨dxs, q, h1, h2⟩ := St8.ob
    try simp_arith [h1, sn_empty]
    refine ⟨p, u1, w1, l, r, rfl, St8, ?_⟩
    try simp_arith [true_and]
    by_cases c0 : u1 + w1 = 0
    · rw [if_neg (by rw [decide_eq_true c0]; decide)]
      have e1 : u1 = 0 := by omega
      have e2 : w1 = 0 := by omega
      subst e1 e2
      rw [bst_zero, List.append_nil] at eS
      subst eS
      subst hR0
      try simp_arith [true_and]
      exact k o H8 b8 n_o0 ho8 tab8
    · rw [if_pos (by rw [decide_eq_false c0]; rfl)]
      refine ⟨PvBst t lv a x dx kn o u w' pt H (m - 1), fun σ' H' h => ⟨m - 1, by omega, h⟩, ?_⟩
      have hd := bstD_mem (hh := hh) (l := l) (r := r) (p := pt) c0
      have hmay := sides_mem hd
      have mp := may_pos hmay
      have mo := may_own hmay
      have p2 : 2 ^ m = 2 * 2 ^ (m - 1) := by rw [← pow2]; congr 1; omega
      rw [bst_eq pt c0] at eS
      refine seqG fun R1 hR1 => ?_
      try simp_arith [hx8, rn_best]
      refine ⟨m, hm8, x, p, h, dx, kn, hh, u1, w1, l, r, pt, kvs, rfl, hx8, hk8, by rw [hlen]; exact ok8, St8, hl8, by omega, by omega, em, c0, by omega, tab8, fun H9 kvs9 b9 hk9 ok9 z9 tab9 => ?_⟩
      generalize bstD hh pt u1 w1 l r = d at *
      obtain ⟨pz, etb⟩ := tab_tb tab8
      have n_of : ∀ (y : Addr) (z : HO), H8 y = some z → (∀ q, z ≠ .tbl q) → (∀ q, z ≠ .dT q) → y ∉ [kn, t.tb] := fun y z e h1 h2 hy => by
        simp only [List.mem_cons, List.not_mem_nil, or_false] at hy
        rcases hy with rfl | rfl
        · rw [hk8] at e; exact h2 _ (Option.some.inj e).symm
        · rw [etb] at e; exact h1 _ (Option.some.inj e).symm
      have ho9 := b9 _ _ ho8 (n_of _ _ ho8 (fun _ z => nomatch z) fun _ z => nomatch z)
      have hx9 := b9 _ _ hx8 (n_of _ _ hx8 (fun _ z => nomatch z) fun _ z => nomatch z)
      have hl9 := b9 _ _ hl8 (n_of _ _ hl8 (fun _ z => nomatch z) fun _ z => nomatch z)
      have St9 : StdAt t H9 p u1 w1 l r := ⟨dxs, q, b9 _ _ h1 (n_of _ _ h1 (fun _ z => nomatch z) fun _ z => nomatch z), b9 _ _ h2 (n_of _ _ h2 (fun _ z => nomatch z) fun _ z => nomatch z)⟩
      have bk9 : But [t.tb] H H9 := fun y z e n => by
        have e8 := b8 y z e n
        refine b9 y z e8 ?_
        simp only [List.mem_cons, List.not_mem_nil, or_false, not_or] at n ⊢
        exact ⟨fun zz => (by subst zz; rw [n_kn0] at e; cases e), n⟩
      subst hR1
      refine seqG fun R1 hR1 => ?_
      try simp_arith [ho9, app_sidV']
      refine ⟨by rw [len_sidV]; exact Nat.lt_of_le_of_lt (by omega : _ ≤ 1000) (by decide), ?_⟩
      have no_x : x ≠ o := ne_of hx9 ho9 (by intro z; cases z)
      have no_k : kn ≠ o := ne_of hk9 ho9 (by intro z; cases z)
      have tab10 : TabB t (upd H9 o (HO.lst (sidV (S ++ [d])))) := tab9.but (But.upd (List.mem_singleton.mpr rfl)) fun y hy => .inr (.inl ⟨sidV S, by rw [List.mem_singleton.mp hy]; exact ho9⟩)
      have St10 : StdAt t (upd H9 o (HO.lst (sidV (S ++ [d])))) p u1 w1 l r := by
        obtain ⟨dx9, q9, f1, f2⟩ := St9.ob
        exact ⟨dx9, q9, by rw [upd_ne (ne_of f1 ho9 (by intro z; cases z))]; exact f1, by rw [upd_ne (ne_of f2 ho9 (by intro z; cases z))]; exact f2⟩
      have bk10 : But [t.tb] H (upd H9 o (HO.lst (sidV (S ++ [d])))) := fun y z e n => by rw [upd_ne (ne_of_none e n_o0)]; exact bk9 y z e n
      have ho10 : upd H9 o (HO.lst (sidV (S ++ [d]))) o = some (.lst (sidV (S ++ [d]))) := upd_same
      replace hx9 : upd H9 o (HO.lst (sidV (S ++ [d]))) x = _ := (upd_ne no_x).trans hx9
      replace hk9 : upd H9 o (HO.lst (sidV (S ++ [d]))) kn = _ := (upd_ne no_k).trans hk9
      replace hl9 : upd H9 o (HO.lst (sidV (S ++ [d]))) h = _ := (upd_ne nho).trans hl9
      generalize upd H9 o (HO.lst (sidV (S ++ [d]))) = H10 at *
      obtain ⟨dx10, q10, g1, g2⟩ := id St10.ob
      subst hR1
      refine seqG fun R1 hR1 => ?_
      try simp_arith [g1, sn_behind]
      refine ⟨p, u1, w1, l, r, d, rfl, St10, mo, fun s H11 s11 n_s S11 => ?_⟩
      subst hR1
      have hl11 := s11 _ _ hl9
      try simp_arith [hl11, len_bls]
      refine ⟨_, d, rfl, by omega, by omega, fun b H12 s12 n_b eb => ?_⟩
      have e0 : ((hh.length : Nat) : Int).toNat = hh.length := by omega
      rw [e0] at eb
      have s1112 := s11.trans s12
      exact ⟨s, b, List.replicate hh.length (!d), S ++ [d], uB u1 d, wB w1 d, some d, rB l r d, kvs9, _, rfl, by omega, by omega, bk10.trans (But.same s1112), s1112 _ _ hx9, s1112 _ _ hk9, by rw [hlen] at ok9; exact ok9, S11.same s12, eb, by rw [rep_len]; exact hlen, s1112 _ _ ho10, (ne_of_none (s11 _ _ ho10) n_b).symm, by simp; omega, by rw [List.append_assoc]; exact eS, by omega, tab10.same s1112⟩
end
inductive SpOr (a b : Sp) (vs : List V) (H : Hp) (Q : VK) (E : XK) : Prop
  | l (h : a vs H Q E)
  | r (h : b vs H Q E)
section
variable {P : Program} {w : World} {K : PySem.W.Frag} {mg : Str → Option Value} {base : Heap} {t : Adr}
theorem ok_or {CX : CXT} {f : Addr} {fd : FuncData} {ps : List Str} {k : Nat} {a b : Sp} (F : FnOk P w K mg base CX k f fd ps a) (G : FnOk P w K mg base CX k f fd ps b) : FnOk P w K mg base CX k f fd ps (SpOr a b) :=
  ⟨fun vs H Q E h => by
    cases h with
    | l h => exact F.len vs H Q E h
    | r h => exact G.len vs H Q E h, fun A outer s H args us vs Q E hr he hb hv h => by
    cases h with
    | l h => exact F.run A outer s H args us vs Q E hr he hb hv h
    | r h => exact G.run A outer s H args us vs Q E hr he hb hv h⟩
inductive sp_rinitB (t : Adr) (vs : List V) (H : Hp) (Q : VK) (E : XK) : Prop
  | mk (x l dx : Addr) (lv : List Bool) (z0 : vs = [.ref x, .ref l]) (z1 : H x = some (.ins t.c_Rehearsal dx [])) (z2 : H l = some (.lst (bls lv))) (z3 : lv.length ≤ 1000) (z4 : (lv.length < 1 ∨ 8 < lv.length)) (z5 : ∀ H', Same H H' → E (.ref t.c_BadFlight) none H') : sp_rinitB t vs H Q E
theorem ok_Rehearsal_initB (T : Txt w K mg t) : FnOk P w K mg base (CXe P w) 3 t.f_Rehearsal_init t.d_Rehearsal_init ["self", "levels"] (sp_rinitB t) := by
  have G_init := ok_init (P := P) (w := w) (base := base) T
  refine okX T.F_Rehearsal_init sc_Rehearsal_init (fun vs H Q E h => ?_) (fun cdv A outer s H vs Q E hr h => ?_)
  · obtain ⟨x, l, dx, lv, rfl, _⟩ := h; rfl
  · obtain ⟨x, l, dx, lv, rfl, hx, hl, hz, hb, k⟩ := h
    refine ⟨_, (pss_cons (su_fldK (K := K) rfl (pu 0) (eu_make T.mkc G_init (hr.mono (by decide)) rfl T.g_Flight T.b_init passB (pa_cons (pu 1) pa_nil)))
 (pss_one (su_fldK (K := K) rfl (pu 0) (pe_lst pa_nil)))), ?_⟩
    refine seqG fun R0 hR0 => ?_
    try simp_arith [hx, T.cl_Rehearsal, T.n_Rehearsal_flight]
    intro y dy ny ndy ndyy
    exact mk8_flight ny ndy ndyy hl hz (fun _ H' s => k H' s) fun lo hi => absurd hb (by omega)
inductive sp_planB (t : Adr) (vs : List V) (H : Hp) (Q : VK) (E : XK) : Prop
  | mk (l o : Addr) (lv : List Bool) (z0 : vs = [.ref l, .ref o]) (z1 : H l = some (.lst (bls lv))) (z2 : lv.length ≤ 1000) (z3 : (lv.length < 1 ∨ 8 < lv.length)) (z4 : ∀ H', Same H H' → E (.ref t.c_BadFlight) none H') : sp_planB t vs H Q E
theorem ok_planB (T : Txt w K mg t) : FnOk P w K mg base (CXe P w) 20 t.f_plan t.d_plan ["levels", "order"] (sp_planB t) := by
  have G_come := ok_come (P := P) (w := w) (base := base) T
  have G_Rehearsal_init := ok_Rehearsal_initB (P := P) (w := w) (base := base) T
  have G_Rehearsal_bring_up := ok_Rehearsal_bring_up (P := P) (w := w) (base := base) T
  have G_Rehearsal_bring_down := ok_Rehearsal_bring_down (P := P) (w := w) (base := base) T
  refine okX T.F_plan sc_plan (fun vs H Q E h => ?_) (fun cdv A outer s H vs Q E hr h => ?_)
  · obtain ⟨l, o, lv, rfl, _⟩ := h; rfl
  · obtain ⟨l, o, lv, rfl, el, hz, hb, k⟩ := h
    refine ⟨_, (pss_cons (ps_set (i := 2) sc_plan.nd rfl (Or.inl rfl) (eu_make T.mkc_Rehearsal G_Rehearsal_init (hr.mono (by decide)) rfl T.g_Rehearsal T.b_Rehearsal_init passB (pa_cons (pu 0) pa_nil)))
 (pss_cons (ps_for ownB rfl (pi_listK (K := K) rfl (pu 1)) (pg_name (i := 3) sc_plan.nd rfl (Or.inl rfl)) (pss_one (ps_expr (eu_meth (eu_fldK (K := K) rfl (pu 2)) T.cl T.m_come G_come (hr.mono (by decide)) T.b_come passB (pa_cons (pu 3) pa_nil)))))
 (pss_cons (ps_for ownB rfl (pi_enum (K := K) rfl rfl T.z_enumerate (pa_cons (pu 1) pa_nil)) (pg_tupK (K := K) rfl rfl (pgs_cons (pg_name (i := 4) sc_plan.nd rfl (Or.inl rfl)) (pgs_cons (pg_name (i := 3) sc_plan.nd rfl (Or.inl rfl)) pgs_nil))) (pss_one (ps_if (tu_cmp (ou_eq hr.units) (pu 3) pe_str (nomark _)) (pss_one (ps_expr (eu_meth (pu 2) T.cl_Rehearsal T.m_Rehearsal_bring_up G_Rehearsal_bring_up (hr.mono (by decide)) T.b_Rehearsal_bring_up passB (pa_cons (pu 4) pa_nil)))) (pss_one (ps_expr (eu_meth (pu 2) T.cl_Rehearsal T.m_Rehearsal_bring_down G_Rehearsal_bring_down (hr.mono (by decide)) T.b_Rehearsal_bring_down passB (pa_cons (pu 4) pa_nil)))))))
 (pss_one (ps_ret (eu_fldK (K := K) rfl (pu 2))))))), ?_⟩
    refine seqG fun R0 hR0 => ?_
    try simp_arith [true_and]
    intro x dx nx ndx ndxx
    have m1 : l ≠ x := ne_of_none el nx
    have m2 : l ≠ dx := ne_of_none el ndx
    refine ⟨x, l, dx, lv, rfl, upd_same, by rw [upd_ne m1, upd_ne m2]; exact el, hz, hb, fun H' s' => k H' fun y oo e => s' y oo ?_⟩
    rw [upd_ne (ne_of_none e nx), upd_ne (ne_of_none e ndx)]; exact e
end
def lv1 (x : Int) (n : Int) : List Bool := (List.range n.toNat).map fun k => decide (x / pw (k % 8) % 2 = 1)
theorem lv1_len (x n : Int) : (lv1 x n).length = n.toNat := by unfold lv1; simp
theorem at_pw1 (k : Nat) : atI [V.int 1, V.int 2, V.int 4, V.int 8, V.int 16, V.int 32, V.int 64, V.int 128] ((0 + (k : Int)) % 8) = some (.int (pw (k % 8))) := by
  have e : (0 + (k : Int)) % 8 = 0 + ((k % 8 : Nat) : Int) := by omega
  rw [e]; exact at_pw (Nat.mod_lt _ (by decide))
theorem for_rng1 {tt : TA} {g : TG} {tb : TS} {D : Ends} {σ : St} {H : Hp} (n : Int) (Pv : Nat → St → Hp → Prop) (ht : ∀ Q, tt σ H Q = Q [.int n] H) (h1 : -2 ^ 62 ≤ n) (h2 : n < 2 ^ 62) (h0 : Pv 0 σ H)
    (hs : ∀ i σ H, i < n.toNat → Pv i σ H → g (.int (0 + i)) σ H fun σ2 H2 => tb { D with nx := Pv (i + 1), ct := Pv (i + 1), bk := D.nx } σ2 H2) (hd : ∀ σ H, Pv n.toNat σ H → D.nx σ H) : tFor (iRng1 tt) g tb D σ H := by
  unfold tFor iRng1
  rw [ht]
  exact ⟨n, rfl, h1, h2, for_range Pv h0 hs hd⟩
section
variable {P : Program} {w : World} {K : PySem.W.Frag} {mg : Str → Option Value} {base : Heap} {t : Adr}
inductive sp_refd (t : Adr) (vs : List V) (H : Hp) (Q : VK) (E_ : XK) : Prop
  | mk (wy : Nat) (l o : Addr) (lv S : List Bool) (pt : Int) (z0 : vs = [.int wy, .ref l, .ref o, .int pt]) (z1 : H l = some (.lst (bls lv))) (z2 : H o = some (.lst (sidV S))) (z3 : lv.length ≤ 1000) (z4 : S.length ≤ 8) (z5 : TabB t H) (z6 : ∀ H', But [t.tb] H H' → TabB t H' → Q (.bl (decide (lv.length < 1 ∨ 8 < lv.length))) H') : sp_refd t vs H Q E_
theorem sc_l_refused : FnScope ["way", "levels", "order", "patience", "bad", "e"] ["way", "levels", "order", "patience"] (defScope s_l_refused) := ⟨rfl, rfl, rfl, by decide +kernel, rfl, by decide +kernel, by decide +kernel⟩
set_option maxHeartbeats 800000 in
theorem ok_l_refused (T : Txt w K mg t) : FnOk P w K mg base (CXe P w) 44 t.f_l_refused t.d_l_refused ["way", "levels", "order", "patience"] (sp_refd t) := by
  have G_cost := ok_cost (P := P) (w := w) (base := base) T
  have G_best := ok_best (P := P) (w := w) (base := base) T
  refine okX T.F_l_refused sc_l_refused (fun vs H Q E h => ?_) (fun cdv A outer s H vs Q E hr h => ?_)
  · obtain ⟨wy, l, o, lv, S, pt, rfl, _⟩ := h; rfl
  · obtain ⟨wy, l, o, lv, S, pt, rfl, hl, ho, hz, sz, tab, k⟩ := h
    have G_plan := ok_or (ok_plan (P := P) (w := w) (base := base) T) (ok_planB T)
    refine ⟨_, (pss_cons (ps_set (i := 4) sc_l_refused.nd rfl (Or.inl rfl) pe_bl)
 (pss_cons (ps_try own_body (fun pins Ex => (pss_one (ps_if (tu_cmp (ou_eq hr.units) (pu 0) pe_int (nomark _)) (pss_one (ps_expr (eu_call G_cost (hr.mono (by decide)) rfl T.g_cost T.F_cost.kp T.b_cost (passTry own_body) (pa_cons (pu 1) (pa_cons (pu 2) pa_nil))))) (pss_one (ps_if (tu_cmp (ou_eq hr.units) (pu 0) pe_int (nomark _)) (pss_one (ps_expr (eu_call G_plan (hr.mono (by decide)) rfl T.g_plan T.F_plan.kp T.b_plan (passTry own_body) (pa_cons (pu 1) (pa_cons (pu 2) pa_nil))))) (pss_one (ps_expr (eu_call G_best (hr.mono (by decide)) rfl T.g_best T.F_best.kp T.b_best (passTry own_body) (pa_cons (pu 1) (pa_cons (pe_callB cu_len rfl T.z_len PySem.boot_len (pa_cons (pu 2) pa_nil)) (pa_cons pe_int (pa_cons (pu 3) pa_nil)))))))))))) (ph_as (i := 5) own_body sc_l_refused.nd rfl rfl rfl T.g_BadFlight (fun ea oe xe => (pss_one (ps_set (i := 4) sc_l_refused.nd rfl (Or.inl rfl) (eu_and (pe_callB (cu_isx (K := K) rfl) rfl T.z_isinstance PyProof.Rows.boot_isinstance (pa_cons (pu 5) (pa_cons (pe_glob (v := .ref t.c_LockError) rfl T.g_LockError rfl) pa_nil))) (eu_and (eu_not (pe_callB (cu_isx (K := K) rfl) rfl T.z_isinstance PyProof.Rows.boot_isinstance (pa_cons (pu 5) (pa_cons (pe_glob (v := .ref t.c_NoGate) rfl T.g_NoGate rfl) pa_nil)))) (pe_one (eu_not (pe_callB (cu_isx (K := K) rfl) rfl T.z_isinstance PyProof.Rows.boot_isinstance (pa_cons (pu 5) (pa_cons (pe_glob (v := .ref t.c_BadText) rfl T.g_BadText rfl) pa_nil)))))))))) ph_nil))
 (pss_one (ps_ret (pu 4))))), ?_⟩
    refine seqG fun R0 hR0 => ?_
    try simp_arith [true_and]
    subst hR0
    refine seqG fun R0 hR0 => ?_
    try simp_arith [tTry, hAs]
    have key : ∀ (b : Bool) (H' : Hp), But [t.tb] H H' → TabB t H' → b = decide (lv.length < 1 ∨ 8 < lv.length) → R0 { nx := fun x H' => Q V.non H', rt := Q } [some (.int wy), some (.ref l), some (.ref o), some (.int pt), some (.bl b), none] H' := by
      intro b H' b' t' eb
      subst eb
      subst hR0
      try simp_arith [true_and]
      exact k H' b' t'
    by_cases c0 : wy = 0
    · rw [if_pos (by simpa using c0)]
      refine ⟨l, o, lv, S, rfl, hl, ho, hz, fun c H' s' => ?_, fun c H' s' => key false H' (But.same s') (tab.same s') ((decide_eq_false (by omega)).symm)⟩
      refine ⟨true, T.q_BF_BF, ?_⟩
      rw [if_pos rfl]
      intro ea oe hoe
      refine ⟨rfl, _, true, hoe, T.w_BadFlight, T.q_i_BF_LE, ?_⟩
      rw [if_pos rfl]
      refine ⟨rfl, _, false, hoe, T.w_BadFlight, T.q_i_BF_NG, ?_⟩
      rw [if_pos (by decide)]
      exact ⟨rfl, _, false, hoe, T.w_BadFlight, T.q_i_BF_BT, key _ H' (But.same s') (tab.same s') (by rw [decide_eq_true c]; rfl)⟩
    · rw [if_neg (by simpa using c0)]
      by_cases c1 : wy = 1
      · rw [if_pos (by simp; omega)]
        by_cases c : lv.length < 1 ∨ 8 < lv.length
        · refine .r ⟨l, o, lv, rfl, hl, hz, c, fun H' s' => ?_⟩
          refine ⟨true, T.q_BF_BF, ?_⟩
          rw [if_pos rfl]
          intro ea oe hoe
          refine ⟨rfl, _, true, hoe, T.w_BadFlight, T.q_i_BF_LE, ?_⟩
          rw [if_pos rfl]
          refine ⟨rfl, _, false, hoe, T.w_BadFlight, T.q_i_BF_NG, ?_⟩
          rw [if_pos (by decide)]
          exact ⟨rfl, _, false, hoe, T.w_BadFlight, T.q_i_BF_BT, key _ H' (But.same s') (tab.same s') (by rw [decide_eq_true c]; rfl)⟩
        · exact .l ⟨l, o, lv, S, rfl, hl, ho, by omega, by omega, by omega, fun d ps ds f' H' s' _ _ _ _ _ _ _ => key false H' (But.same s') (tab.same s') ((decide_eq_false c).symm)⟩
      · rw [if_neg (by simp; omega)]
        try simp_arith [ho, len_sidV]
        refine ⟨l, lv, S.length, 2, pt, rfl, hl, hz, by omega, tab, fun c H' s' => ?_, fun c o2 H' b' n_o2 e_o2 tab' => key false H' b' tab' ((decide_eq_false (by omega)).symm)⟩
        refine ⟨true, T.q_BF_BF, ?_⟩
        rw [if_pos rfl]
        intro ea oe hoe
        refine ⟨rfl, _, true, hoe, T.w_BadFlight, T.q_i_BF_LE, ?_⟩
        rw [if_pos rfl]
        refine ⟨rfl, _, false, hoe, T.w_BadFlight, T.q_i_BF_NG, ?_⟩
        rw [if_pos (by decide)]
        exact ⟨rfl, _, false, hoe, T.w_BadFlight, T.q_i_BF_BT, key _ H' (But.same s') (tab.same s') (by rw [decide_eq_true c]; rfl)⟩
inductive PvY (K : PySem.W.Frag) (t : Adr) (a l o : Addr) (ns : List Int) (mn : Int) (lv S : List Bool) (pt : Int) (i : Nat) (σ : St) (H' : Hp) : Prop
  | mk (v5 : Option V) (eσ : σ = [some (.ref a), some (.int mn), some (.ref l), some (.ref o), some (.int pt), v5]) (el : H' l = some (.lst (bls lv))) (eo : H' o = some (.lst (sidV S))) (tab : TabB t H')
inductive sp_law (K : PySem.W.Frag) (t : Adr) (vs : List V) (H : Hp) (Q : VK) (E_ : XK) : Prop
  | mk (a : Addr) (ns : List Int) (z0 : vs = [.ref a]) (z1 : SqL K H a (ns.map V.int)) (z2 : ns.length ≤ 63) (z3 : TabB t H) (z4 : ∀ H', Q (.bl true) H') : sp_law K t vs H Q E_
theorem sc_law : FnScope ["script", "many", "levels", "order", "patience", "way"] ["script"] (defScope s_law) := ⟨rfl, rfl, rfl, by decide +kernel, rfl, by decide +kernel, by decide +kernel⟩
set_option maxHeartbeats 800000 in
theorem ok_law (T : Txt w K mg t) : FnOk P w K mg base (CXe P w) 46 t.f_law t.d_law ["script"] (sp_law K t) := by
  have G_l_cell_at := ok_l_cell_at (P := P) (w := w) (base := base) T
  have G_l_order := ok_l_order (P := P) (w := w) (base := base) T
  have G_l_refused := ok_l_refused (P := P) (w := w) (base := base) T
  refine okX T.F_law sc_law (fun vs H Q E h => ?_) (fun cdv A outer s H vs Q E hr h => ?_)
  · obtain ⟨a, ns, rfl, _⟩ := h; rfl
  · obtain ⟨a, ns, rfl, hS, hz, tab, k⟩ := h
    refine ⟨_, (pss_cons (ps_set (i := 1) sc_law.nd rfl (Or.inl rfl) (pe_op ou_add pe_int (pe_op ou_mod (pe_op ou_fdiv (eu_call G_l_cell_at (hr.mono (by decide)) rfl T.g_l_cell_at T.F_l_cell_at.kp T.b_l_cell_at passB (pa_cons (pu 0) (pa_cons pe_int pa_nil))) pe_int) pe_int)))
 (pss_cons (ps_if (tu_cmp (ou_eq hr.units) (pe_op ou_mod (eu_call G_l_cell_at (hr.mono (by decide)) rfl T.g_l_cell_at T.F_l_cell_at.kp T.b_l_cell_at passB (pa_cons (pu 0) (pa_cons pe_int pa_nil))) pe_int) pe_int (nomark _)) (pss_one (ps_set (i := 1) sc_law.nd rfl (Or.inl rfl) pe_int)) pss_nil)
 (pss_cons (ps_setComp (i := 2) sc_law.nd rfl rfl (fv := ["script"]) (ixs := [0]) rfl (by decide +kernel) rfl rfl (pi_range1 rfl T.z_range (pa_cons (pu 1) pa_nil)) (fun cl C s H fp => pif_nil) (fun cl C s H fp => (pe_cmpR (ou_eq hr.units) (pe_op ou_mod (pe_op ou_fdiv (eu_call G_l_cell_at (hr.mono (by decide)) rfl T.g_l_cell_at T.F_l_cell_at.kp T.b_l_cell_at passF (pa_cons (pu 1) (pa_cons pe_int pa_nil))) (eu_ix xu_seq (pe_lst (pa_cons pe_int (pa_cons pe_int (pa_cons pe_int (pa_cons pe_int (pa_cons pe_int (pa_cons pe_int (pa_cons pe_int (pa_cons pe_int pa_nil))))))))) (pe_op ou_mod (pu 0) pe_int))) pe_int) pe_int (nomark _))))
 (pss_cons (ps_set (i := 3) sc_law.nd rfl (Or.inl rfl) (eu_call G_l_order (hr.mono (by decide)) rfl T.g_l_order T.F_l_order.kp T.b_l_order passB (pa_cons (pu 0) (pa_cons pe_int (pa_cons (pe_op ou_mod (eu_call G_l_cell_at (hr.mono (by decide)) rfl T.g_l_cell_at T.F_l_cell_at.kp T.b_l_cell_at passB (pa_cons (pu 0) (pa_cons pe_int pa_nil))) pe_int) pa_nil)))))
 (pss_cons (ps_set (i := 4) sc_law.nd rfl (Or.inl rfl) (pe_op ou_add pe_int (pe_op ou_mod (eu_call G_l_cell_at (hr.mono (by decide)) rfl T.g_l_cell_at T.F_l_cell_at.kp T.b_l_cell_at passB (pa_cons (pu 0) (pa_cons pe_int pa_nil))) pe_int)))
 (pss_cons (ps_for ownB rfl (pi_range1 rfl T.z_range (pa_cons pe_int pa_nil)) (pg_name (i := 5) sc_law.nd rfl (Or.inl rfl)) (pss_cons (ps_if (pt_not (tu_val (eu_call G_l_refused (hr.mono (by decide)) rfl T.g_l_refused T.F_l_refused.kp T.b_l_refused passB (pa_cons (pu 5) (pa_cons (pe_callTy cu_list rfl T.z_list PyProof.Rows.boot_list (pa_cons (pu 2) pa_nil)) (pa_cons (pe_callTy cu_list rfl T.z_list PyProof.Rows.boot_list (pa_cons (pu 3) pa_nil)) (pa_cons (pu 4) pa_nil))))))) (pss_one (ps_ret pe_bl)) pss_nil)
 (pss_one (ps_if (tu_val (eu_call G_l_refused (hr.mono (by decide)) rfl T.g_l_refused T.F_l_refused.kp T.b_l_refused passB (pa_cons (pu 5) (pa_cons (pe_lst (pa_cons pe_bl (pa_cons pe_bl pa_nil))) (pa_cons (pe_callTy cu_list rfl T.z_list PyProof.Rows.boot_list (pa_cons (pu 3) pa_nil)) (pa_cons (pu 4) pa_nil)))))) (pss_one (ps_ret pe_bl)) pss_nil))))
 (pss_one (ps_ret pe_bl)))))))), ?_⟩
    refine seqG fun R0 hR0 => ?_
    try simp_arith [true_and]
    refine ⟨a, ns, 0, rfl, hS, by decide, ?_⟩
    try simp_arith [true_and]
    refine ⟨⟨by decide, by decide⟩, by decide, ?_⟩
    subst hR0
    refine seqG fun R0 hR0 => ?_
    have fin : ∀ mv : Int, (mv = 0 ∨ 9 ≤ mv ∧ mv ≤ 60) → R0 { nx := fun x H' => Q V.non H', rt := Q } [some (.ref a), some (.int mv), none, none, none, none] H := by
      intro mv hmv
      subst hR0
      refine seqG fun R0 hR0 => ?_
      try simp_arith [iRng1]
      refine ⟨mv, rfl, by omega, by omega, comp_range (fun _ => true) (fun k => .bl (decide (cellOf ns 1 / pw (k % 8) % 2 = 1))) ?_ ?_ ?_⟩
      · exact Nat.le_trans (by omega : _ ≤ 1000) (by decide)
      · intro k hk H1 s1 Rt Rf hRt hRf
        try simp_arith [tAll]
        refine ⟨a, ns, 1, rfl, s1.seq hS, by decide, ?_⟩
        try simp_arith [true_and]
        refine ⟨by decide, fun l hl => ⟨by decide, ?_⟩⟩
        rw [at_pw1]
        try simp_arith [true_and]
        obtain ⟨p1, p2⟩ := pw_rng (k % 8)
        refine ⟨⟨p1, p2⟩, by decide, ?_⟩
        have e : decide (V.int (cellOf ns 1 / pw (k % 8) % 2) = V.int 1) = decide (cellOf ns 1 / pw (k % 8) % 2 = 1) := by simp
        rw [e]
        exact hRt rfl _ (s1.trans (same_new hl))
      intro H1 s1 l n_l
      have e : ((List.range mv.toNat).filter fun _ => true).map (fun k => V.bl (decide (cellOf ns 1 / pw (k % 8) % 2 = 1))) = bls (lv1 (cellOf ns 1) mv) := by
        rw [List.filter_eq_self.mpr (fun _ _ => rfl)]
        unfold lv1 bls
        rw [List.map_map]; rfl
      rw [e]
      clear e
      have ln := lv1_len (cellOf ns 1) mv
      generalize lv1 (cellOf ns 1) mv = lv at *
      have s12 := s1.trans (same_new (o := HO.lst (bls lv)) n_l)
      have S2 := s12.seq hS
      have tab2 := tab.same s12
      have sm_H2 := same_new (o := HO.lst (bls lv)) n_l
      have e_l : upd H1 l (HO.lst (bls lv)) l = some (HO.lst (bls lv)) := upd_same
      generalize upd H1 l (HO.lst (bls lv)) = H2 at *
      subst hR0
      refine seqG fun R0 hR0 => ?_
      try simp_arith [true_and]
      refine ⟨a, ns, 2, rfl, S2, by decide, ?_⟩
      try simp_arith [true_and]
      refine ⟨by decide, a, ns, 3, _, rfl, S2, by decide, by omega, by omega, fun o H3 s3 n_o e_o => ?_⟩
      have lS := ord_len ns 3 (cellOf ns 2 % 9).toNat
      generalize ordOf ns 3 (cellOf ns 2 % 9).toNat = S at *
      have S8 : S.length ≤ 8 := by omega
      replace e_l := s3 _ _ e_l
      replace S2 := s3.seq S2
      replace tab2 := tab2.same s3
      subst hR0
      refine seqG fun R0 hR0 => ?_
      try simp_arith [true_and]
      refine ⟨a, ns, 12, rfl, S2, by decide, ?_⟩
      try simp_arith [true_and]
      refine ⟨by decide, ?_⟩
      generalize 1 + cellOf ns 12 % 20 = pt
      subst hR0
      refine seqG fun R0 hR0 => ?_
      refine for_rng1 3 (PvY K t a l o ns mv lv S pt) (fun _ => rfl) (by decide) (by decide) ⟨_, rfl, e_l, e_o, tab2⟩ ?_ ?_
      · rintro i σ H4 hi ⟨v5, rfl, el, eo, tab4⟩
        try simp_arith [true_and]
        refine seqG fun R1 hR1 => ?_
        try simp_arith [el]
        intro q1 n_q1
        have s5 := same_new (o := HO.lst (bls lv)) n_q1
        replace tab4 := tab4.same s5
        have sm_H5 := same_new (o := HO.lst (bls lv)) n_q1
        have e_q1 : upd H4 q1 (HO.lst (bls lv)) q1 = some (HO.lst (bls lv)) := upd_same
        replace el := sm_H5 _ _ el
        replace eo := sm_H5 _ _ eo
        generalize upd H4 q1 (HO.lst (bls lv)) = H5 at *
        try simp_arith [eo]
        intro q2 n_q2
        have s6 := same_new (o := HO.lst (sidV S)) n_q2
        replace tab4 := tab4.same s6
        have sm_H6 := same_new (o := HO.lst (sidV S)) n_q2
        have e_q2 : upd H5 q2 (HO.lst (sidV S)) q2 = some (HO.lst (sidV S)) := upd_same
        replace el := sm_H6 _ _ el
        replace eo := sm_H6 _ _ eo
        replace e_q1 := sm_H6 _ _ e_q1
        generalize upd H5 q2 (HO.lst (sidV S)) = H6 at *
        refine ⟨i, q1, q2, lv, S, pt, by rw [Int.zero_add], e_q1, e_q2, by omega, S8, tab4, fun H7 b7 t7 => ?_⟩
        rw [decide_eq_true (by omega)]
        try simp_arith [Bool.not_true]
        obtain ⟨pz, etb⟩ := tab_tb tab4
        replace el := b7 _ _ el (fun z => by rw [List.mem_singleton.mp z, etb] at el; cases el)
        replace eo := b7 _ _ eo (fun z => by rw [List.mem_singleton.mp z, etb] at eo; cases eo)
        clear etb tab4 b7 e_q1 e_q2
        subst hR1
        try simp_arith [true_and]
        refine ⟨by decide, fun q3 n_q3 => ?_⟩
        have s8 := same_new (o := HO.lst [V.bl true, V.bl false]) n_q3
        replace t7 := t7.same s8
        have sm_H8 := same_new (o := HO.lst [V.bl true, V.bl false]) n_q3
        have e_q3 : upd H7 q3 (HO.lst [V.bl true, V.bl false]) q3 = some (HO.lst [V.bl true, V.bl false]) := upd_same
        replace el := sm_H8 _ _ el
        replace eo := sm_H8 _ _ eo
        generalize upd H7 q3 (HO.lst [V.bl true, V.bl false]) = H8 at *
        try simp_arith [eo]
        intro q4 n_q4
        have s9 := same_new (o := HO.lst (sidV S)) n_q4
        replace t7 := t7.same s9
        have sm_H9 := same_new (o := HO.lst (sidV S)) n_q4
        have e_q4 : upd H8 q4 (HO.lst (sidV S)) q4 = some (HO.lst (sidV S)) := upd_same
        replace el := sm_H9 _ _ el
        replace eo := sm_H9 _ _ eo
        replace e_q3 := sm_H9 _ _ e_q3
        generalize upd H8 q4 (HO.lst (sidV S)) = H9 at *
        refine ⟨i, q3, q4, [true, false], S, pt, by rw [Int.zero_add], e_q3, e_q4, by decide, S8, t7, fun H10 b10 t10 => ?_⟩
        rw [decide_eq_false (by decide)]
        try simp_arith [true_and]
        obtain ⟨pz, etb⟩ := tab_tb t7
        exact ⟨_, rfl, b10 _ _ el (fun z => by rw [List.mem_singleton.mp z, etb] at el; cases el), b10 _ _ eo (fun z => by rw [List.mem_singleton.mp z, etb] at eo; cases eo), t10⟩
      · rintro σ H4 ⟨v5, rfl, el, eo, tab4⟩
        show R0 _ _ _
        subst hR0
        try simp_arith [true_and]
        exact k _
    try simp_arith [true_and]
    refine ⟨a, ns, 0, rfl, hS, by decide, ?_⟩
    try simp_arith [true_and]
    refine ⟨by decide, ?_⟩
    by_cases c : cellOf ns 0 % 2 = 0
    · rw [if_pos (by simpa using c)]
      exact fin 0 (.inl rfl)
    · rw [if_neg (by simpa using c)]
      exact fin _ (by omega)
end
abbrev fd_init : FuncData := PySem.W.fnOf "__init__" "Flight.__init__" (defArgs s_init) (defBody s_init) (defScope s_init) .none .none .none (.str (Str.ofString "lockflight.flight") 342) none (.ref 143) .none
abbrev fd_levels : FuncData := PySem.W.fnOf "levels" "Flight.levels" (defArgs s_levels) (defBody s_levels) (defScope s_levels) .none .none .none (.str (Str.ofString "lockflight.flight") 342) none (.ref 150) .none
abbrev fd_side : FuncData := PySem.W.fnOf "side" "Flight.side" (defArgs s_side) (defBody s_side) (defScope s_side) .none .none .none (.str (Str.ofString "lockflight.flight") 342) none (.ref 192) .none
abbrev fd_place : FuncData := PySem.W.fnOf "place" "Flight.place" (defArgs s_place) (defBody s_place) (defScope s_place) .none .none .none (.str (Str.ofString "lockflight.flight") 342) none (.ref 199) .none
abbrev fd_come : FuncData := PySem.W.fnOf "come" "Flight.come" (defArgs s_come) (defBody s_come) (defScope s_come) .none .none .none (.str (Str.ofString "lockflight.flight") 342) none (.ref 206) .none
abbrev fd_let : FuncData := PySem.W.fnOf "let" "Flight.let" (defArgs s_let) (defBody s_let) (defScope s_let) .none .none .none (.str (Str.ofString "lockflight.flight") 342) none (.ref 213) .none
abbrev fd_sail : FuncData := PySem.W.fnOf "sail" "Flight.sail" (defArgs s_sail) (defBody s_sail) (defScope s_sail) .none .none .none (.str (Str.ofString "lockflight.flight") 342) none (.ref 220) .none
abbrev fd_summit : FuncData := PySem.W.fnOf "summit" "Flight.summit" (defArgs s_summit) (defBody s_summit) (defScope s_summit) .none .none .none (.str (Str.ofString "lockflight.flight") 342) none (.ref 227) .none
abbrev fd_is_chamber : FuncData := PySem.W.fnOf "is_chamber" "Flight.is_chamber" (defArgs s_is_chamber) (defBody s_is_chamber) (defScope s_is_chamber) .none .none .none (.str (Str.ofString "lockflight.flight") 342) none (.ref 234) .none
abbrev fd_can_give : FuncData := PySem.W.fnOf "can_give" "Flight.can_give" (defArgs s_can_give) (defBody s_can_give) (defScope s_can_give) .none .none .none (.str (Str.ofString "lockflight.flight") 342) none (.ref 241) .none
abbrev fd_can_take : FuncData := PySem.W.fnOf "can_take" "Flight.can_take" (defArgs s_can_take) (defBody s_can_take) (defScope s_can_take) .none .none .none (.str (Str.ofString "lockflight.flight") 342) none (.ref 248) .none
abbrev fd_is_level : FuncData := PySem.W.fnOf "is_level" "Flight.is_level" (defArgs s_is_level) (defBody s_is_level) (defScope s_is_level) .none .none .none (.str (Str.ofString "lockflight.flight") 342) none (.ref 255) .none
abbrev fd_give : FuncData := PySem.W.fnOf "give" "Flight.give" (defArgs s_give) (defBody s_give) (defScope s_give) .none .none .none (.str (Str.ofString "lockflight.flight") 342) none (.ref 262) .none
abbrev fd_take : FuncData := PySem.W.fnOf "take" "Flight.take" (defArgs s_take) (defBody s_take) (defScope s_take) .none .none .none (.str (Str.ofString "lockflight.flight") 342) none (.ref 269) .none
abbrev fd_leave : FuncData := PySem.W.fnOf "leave" "Flight.leave" (defArgs s_leave) (defBody s_leave) (defScope s_leave) .none .none .none (.str (Str.ofString "lockflight.flight") 342) none (.ref 276) .none
abbrev fd_enter : FuncData := PySem.W.fnOf "enter" "Flight.enter" (defArgs s_enter) (defBody s_enter) (defScope s_enter) .none .none .none (.str (Str.ofString "lockflight.flight") 342) none (.ref 283) .none
abbrev fd_cost : FuncData := PySem.W.fnOf "cost" "cost" (defArgs s_cost) (defBody s_cost) (defScope s_cost) .none .none .none (.str (Str.ofString "lockflight.costs") 541) none (.ref 297) .none
abbrev fd_boat_cost : FuncData := PySem.W.fnOf "boat_cost" "boat_cost" (defArgs s_boat_cost) (defBody s_boat_cost) (defScope s_boat_cost) .none .none .none (.str (Str.ofString "lockflight.costs") 541) none (.ref 304) .none
abbrev fd_levels_behind : FuncData := PySem.W.fnOf "levels_behind" "levels_behind" (defArgs s_levels_behind) (defBody s_levels_behind) (defScope s_levels_behind) .none .none .none (.str (Str.ofString "lockflight.costs") 541) none (.ref 311) .none
abbrev fd_plan : FuncData := PySem.W.fnOf "plan" "plan" (defArgs s_plan) (defBody s_plan) (defScope s_plan) .none .none .none (.str (Str.ofString "lockflight.costs") 541) none (.ref 318) .none
abbrev fd_Rehearsal_init : FuncData := PySem.W.fnOf "__init__" "Rehearsal.__init__" (defArgs s_Rehearsal_init) (defBody s_Rehearsal_init) (defScope s_Rehearsal_init) .none .none .none (.str (Str.ofString "lockflight.costs") 541) none (.ref 332) .none
abbrev fd_Rehearsal_bring_up : FuncData := PySem.W.fnOf "bring_up" "Rehearsal.bring_up" (defArgs s_Rehearsal_bring_up) (defBody s_Rehearsal_bring_up) (defScope s_Rehearsal_bring_up) .none .none .none (.str (Str.ofString "lockflight.costs") 541) none (.ref 339) .none
abbrev fd_Rehearsal_bring_down : FuncData := PySem.W.fnOf "bring_down" "Rehearsal.bring_down" (defArgs s_Rehearsal_bring_down) (defBody s_Rehearsal_bring_down) (defScope s_Rehearsal_bring_down) .none .none .none (.str (Str.ofString "lockflight.costs") 541) none (.ref 346) .none
abbrev fd_Rehearsal_make_high : FuncData := PySem.W.fnOf "make_high" "Rehearsal.make_high" (defArgs s_Rehearsal_make_high) (defBody s_Rehearsal_make_high) (defScope s_Rehearsal_make_high) .none .none .none (.str (Str.ofString "lockflight.costs") 541) none (.ref 353) .none
abbrev fd_Rehearsal_make_low : FuncData := PySem.W.fnOf "make_low" "Rehearsal.make_low" (defArgs s_Rehearsal_make_low) (defBody s_Rehearsal_make_low) (defScope s_Rehearsal_make_low) .none .none .none (.str (Str.ofString "lockflight.costs") 541) none (.ref 360) .none
abbrev fd_Rehearsal_highest : FuncData := PySem.W.fnOf "highest" "Rehearsal.highest" (defArgs s_Rehearsal_highest) (defBody s_Rehearsal_highest) (defScope s_Rehearsal_highest) .none .none .none (.str (Str.ofString "lockflight.costs") 541) none (.ref 367) .none
abbrev fd_Rehearsal_is_high : FuncData := PySem.W.fnOf "is_high" "Rehearsal.is_high" (defArgs s_Rehearsal_is_high) (defBody s_Rehearsal_is_high) (defScope s_Rehearsal_is_high) .none .none .none (.str (Str.ofString "lockflight.costs") 541) none (.ref 374) .none
abbrev fd_Rehearsal_let : FuncData := PySem.W.fnOf "let" "Rehearsal.let" (defArgs s_Rehearsal_let) (defBody s_Rehearsal_let) (defScope s_Rehearsal_let) .none .none .none (.str (Str.ofString "lockflight.costs") 541) none (.ref 381) .none
abbrev fd_Rehearsal_sail : FuncData := PySem.W.fnOf "sail" "Rehearsal.sail" (defArgs s_Rehearsal_sail) (defBody s_Rehearsal_sail) (defScope s_Rehearsal_sail) .none .none .none (.str (Str.ofString "lockflight.costs") 541) none (.ref 388) .none
abbrev fd_best : FuncData := PySem.W.fnOf "best" "best" (defArgs s_best) (defBody s_best) (defScope s_best) .none .none .none (.str (Str.ofString "lockflight.patience") 676) none (.ref 402) .none
abbrev fd_Stand_init : FuncData := PySem.W.fnOf "__init__" "Stand.__init__" (defArgs s_Stand_init) (defBody s_Stand_init) (defScope s_Stand_init) .none .none .none (.str (Str.ofString "lockflight.patience") 676) none (.ref 416) .none
abbrev fd_Stand_is_empty : FuncData := PySem.W.fnOf "is_empty" "Stand.is_empty" (defArgs s_Stand_is_empty) (defBody s_Stand_is_empty) (defScope s_Stand_is_empty) .none .none .none (.str (Str.ofString "lockflight.patience") 676) none (.ref 423) .none
abbrev fd_Stand_may_go : FuncData := PySem.W.fnOf "may_go" "Stand.may_go" (defArgs s_Stand_may_go) (defBody s_Stand_may_go) (defScope s_Stand_may_go) .none .none .none (.str (Str.ofString "lockflight.patience") 676) none (.ref 430) .none
abbrev fd_Stand_behind : FuncData := PySem.W.fnOf "behind" "Stand.behind" (defArgs s_Stand_behind) (defBody s_Stand_behind) (defScope s_Stand_behind) .none .none .none (.str (Str.ofString "lockflight.patience") 676) none (.ref 437) .none
abbrev fd_Stand_mark : FuncData := PySem.W.fnOf "mark" "Stand.mark" (defArgs s_Stand_mark) (defBody s_Stand_mark) (defScope s_Stand_mark) .none .none .none (.str (Str.ofString "lockflight.patience") 676) none (.ref 444) .none
abbrev fd_Rests_init : FuncData := PySem.W.fnOf "__init__" "Rests.__init__" (defArgs s_Rests_init) (defBody s_Rests_init) (defScope s_Rests_init) .none .none .none (.str (Str.ofString "lockflight.patience") 676) none (.ref 465) .none
abbrev fd_Rests_rest_of : FuncData := PySem.W.fnOf "rest_of" "Rests.rest_of" (defArgs s_Rests_rest_of) (defBody s_Rests_rest_of) (defScope s_Rests_rest_of) .none .none .none (.str (Str.ofString "lockflight.patience") 676) none (.ref 470) .none
abbrev fd_Rests_cost_by : FuncData := PySem.W.fnOf "cost_by" "Rests.cost_by" (defArgs s_Rests_cost_by) (defBody s_Rests_cost_by) (defScope s_Rests_cost_by) .none .none .none (.str (Str.ofString "lockflight.patience") 676) none (.ref 477) .none
abbrev fd_Rests_next_sides : FuncData := PySem.W.fnOf "next_sides" "Rests.next_sides" (defArgs s_Rests_next_sides) (defBody s_Rests_next_sides) (defScope s_Rests_next_sides) .none .none .none (.str (Str.ofString "lockflight.patience") 676) none (.ref 482) .none
abbrev fd_Rests_best_side : FuncData := PySem.W.fnOf "best_side" "Rests.best_side" (defArgs s_Rests_best_side) (defBody s_Rests_best_side) (defScope s_Rests_best_side) .none .none .none (.str (Str.ofString "lockflight.patience") 676) none (.ref 489) .none
abbrev fd_l_cell_at : FuncData := PySem.W.fnOf "_law_cell_at" "_law_cell_at" (defArgs s_l_cell_at) (defBody s_l_cell_at) (defScope s_l_cell_at) .none .none .none (.str (Str.ofString "law_lockflight_k11_bad_flights") 825) none (.ref 503) .none
abbrev fd_l_order : FuncData := PySem.W.fnOf "_law_order" "_law_order" (defArgs s_l_order) (defBody s_l_order) (defScope s_l_order) .none .none .none (.str (Str.ofString "law_lockflight_k11_bad_flights") 825) none (.ref 508) .none
abbrev fd_l_refused : FuncData := PySem.W.fnOf "_law_refused" "_law_refused" (defArgs s_l_refused) (defBody s_l_refused) (defScope s_l_refused) .none .none .none (.str (Str.ofString "law_lockflight_k11_bad_flights") 825) none (.ref 515) .none
abbrev fd_law : FuncData := PySem.W.fnOf "law" "law" (defArgs s_law) (defBody s_law) (defScope s_law) .none .none .none (.str (Str.ofString "law_lockflight_k11_bad_flights") 825) none (.ref 520) .none
noncomputable def ob_3 (P : PySem.Params) : Obj := ⟨(.type "dict"), none, (.dict #[⟨(PyData.keyHash P (Str.ofString "__name__")), (.str (Str.ofString "__name__") 165), (.str (Str.ofString "law_lockflight_k11_bad_flights") 825)⟩, ⟨(PyData.keyHash P (Str.ofString "__doc__")), (.str (Str.ofString "__doc__") 166), .none⟩, ⟨(PyData.keyHash P (Str.ofString "__package__")), (.str (Str.ofString "__package__") 167), .none⟩, ⟨(PyData.keyHash P (Str.ofString "__loader__")), (.str (Str.ofString "__loader__") 168), (.builtin "__main__.__loader__#opaque")⟩, ⟨(PyData.keyHash P (Str.ofString "__spec__")), (.str (Str.ofString "__spec__") 169), .none⟩, ⟨(PyData.keyHash P (Str.ofString "__annotations__")), (.str (Str.ofString "__annotations__") 170), (.ref 6)⟩, ⟨(PyData.keyHash P (Str.ofString "__builtins__")), (.str (Str.ofString "__builtins__") 171), (.ref 4)⟩, ⟨(PyData.keyHash P (Str.ofString "__file__")), (.str (Str.ofString "__file__") 173), (.str (Str.ofString "/claim/cut.py") 172)⟩, ⟨(PyData.keyHash P (Str.ofString "__cached__")), (.str (Str.ofString "__cached__") 174), .none⟩, ⟨(PyData.keyHash P (Str.ofString "_wall")), (.str (Str.ofString "_wall") 193), (.ref 21)⟩, ⟨(PyData.keyHash P (Str.ofString "LockError")), (.str (Str.ofString "LockError") 213), (.ref 31)⟩, ⟨(PyData.keyHash P (Str.ofString "BadFlight")), (.str (Str.ofString "BadFlight") 229), (.ref 44)⟩, ⟨(PyData.keyHash P (Str.ofString "NoGate")), (.str (Str.ofString "NoGate") 245), (.ref 56)⟩, ⟨(PyData.keyHash P (Str.ofString "NoFall")), (.str (Str.ofString "NoFall") 261), (.ref 68)⟩, ⟨(PyData.keyHash P (Str.ofString "NoBoat")), (.str (Str.ofString "NoBoat") 277), (.ref 80)⟩, ⟨(PyData.keyHash P (Str.ofString "NotFirst")), (.str (Str.ofString "NotFirst") 293), (.ref 92)⟩, ⟨(PyData.keyHash P (Str.ofString "Shut")), (.str (Str.ofString "Shut") 309), (.ref 104)⟩, ⟨(PyData.keyHash P (Str.ofString "Occupied")), (.str (Str.ofString "Occupied") 325), (.ref 116)⟩, ⟨(PyData.keyHash P (Str.ofString "BadText")), (.str (Str.ofString "BadText") 341), (.ref 128)⟩, ⟨(PyData.keyHash P (Str.ofString "MOST_CHAMBERS")), (.str (Str.ofString "MOST_CHAMBERS") 345), (.int 8 344)⟩, ⟨(PyData.keyHash P (Str.ofString "Flight")), (.str (Str.ofString "Flight") 540), (.ref 287)⟩, ⟨(PyData.keyHash P (Str.ofString "cost")), (.str (Str.ofString "cost") 553), (.ref 298)⟩, ⟨(PyData.keyHash P (Str.ofString "boat_cost")), (.str (Str.ofString "boat_cost") 561), (.ref 305)⟩, ⟨(PyData.keyHash P (Str.ofString "levels_behind")), (.str (Str.ofString "levels_behind") 569), (.ref 312)⟩, ⟨(PyData.keyHash P (Str.ofString "plan")), (.str (Str.ofString "plan") 580), (.ref 319)⟩, ⟨(PyData.keyHash P (Str.ofString "Rehearsal")), (.str (Str.ofString "Rehearsal") 675), (.ref 392)⟩, ⟨(PyData.keyHash P (Str.ofString "best")), (.str (Str.ofString "best") 692), (.ref 403)⟩, ⟨(PyData.keyHash P (Str.ofString "Stand")), (.str (Str.ofString "Stand") 760), (.ref 448)⟩, ⟨(PyData.keyHash P (Str.ofString "Rests")), (.str (Str.ofString "Rests") 824), (.ref 493)⟩, ⟨(PyData.keyHash P (Str.ofString "_law_cell_at")), (.str (Str.ofString "_law_cell_at") 834), (.ref 504)⟩, ⟨(PyData.keyHash P (Str.ofString "_law_order")), (.str (Str.ofString "_law_order") 840), (.ref 509)⟩, ⟨(PyData.keyHash P (Str.ofString "_law_refused")), (.str (Str.ofString "_law_refused") 852), (.ref 516)⟩, ⟨(PyData.keyHash P (Str.ofString "law")), (.str (Str.ofString "law") 858), (.ref 521)⟩] 33), #[]⟩
noncomputable def ob_4 (P : PySem.Params) : Obj := ⟨(.type "module"), (some 0), .plain, #[]⟩
noncomputable def ob_30 (P : PySem.Params) : Obj := ⟨(.type "dict"), none, (.dict #[⟨(PyData.keyHash P (Str.ofString "__module__")), (.str (Str.ofString "__module__") 203), (.str (Str.ofString "lockflight.errors") 194)⟩, ⟨(PyData.keyHash P (Str.ofString "__firstlineno__")), (.str (Str.ofString "__firstlineno__") 207), (.int 5 206)⟩, ⟨(PyData.keyHash P (Str.ofString "__static_attributes__")), (.str (Str.ofString "__static_attributes__") 208), (.ref 29)⟩, ⟨(PyData.keyHash P (Str.ofString "__weakref__")), (.str (Str.ofString "__weakref__") 210), (.ref 32)⟩, ⟨(PyData.keyHash P (Str.ofString "__doc__")), (.str (Str.ofString "__doc__") 211), .none⟩] 3), #[]⟩
noncomputable def ob_31 (P : PySem.Params) : Obj := ⟨(.type "type"), none, (.cls ⟨(Str.ofString "LockError"), [(.type "ValueError")], [(.ref 31), (.type "ValueError"), (.type "Exception"), (.type "BaseException"), (.type "object")], 30, (Str.ofString "LockError"), true, [], [(.ref 44), (.ref 56), (.ref 68), (.ref 80), (.ref 92), (.ref 104), (.ref 116), (.ref 128)], false, none, false⟩), #[(some (.ref 22)), none, (some (.str (Str.ofString "LockError") 196)), (some (.str (Str.ofString "LockError") 204)), (some (.builtin "ValueError.__new__")), (some (.bool true))]⟩
noncomputable def ob_43 (P : PySem.Params) : Obj := ⟨(.type "dict"), none, (.dict #[⟨(PyData.keyHash P (Str.ofString "__module__")), (.str (Str.ofString "__module__") 221), (.str (Str.ofString "lockflight.errors") 194)⟩, ⟨(PyData.keyHash P (Str.ofString "__firstlineno__")), (.str (Str.ofString "__firstlineno__") 225), (.int 7 224)⟩, ⟨(PyData.keyHash P (Str.ofString "__static_attributes__")), (.str (Str.ofString "__static_attributes__") 226), (.ref 42)⟩, ⟨(PyData.keyHash P (Str.ofString "__doc__")), (.str (Str.ofString "__doc__") 227), .none⟩] 2), #[]⟩
noncomputable def ob_44 (P : PySem.Params) : Obj := ⟨(.type "type"), none, (.cls ⟨(Str.ofString "BadFlight"), [(.ref 31)], [(.ref 44), (.ref 31), (.type "ValueError"), (.type "Exception"), (.type "BaseException"), (.type "object")], 43, (Str.ofString "BadFlight"), true, [], [], false, none, false⟩), #[(some (.ref 35)), none, (some (.str (Str.ofString "BadFlight") 214)), (some (.str (Str.ofString "BadFlight") 222)), (some (.builtin "ValueError.__new__")), (some (.bool true))]⟩
noncomputable def ob_55 (P : PySem.Params) : Obj := ⟨(.type "dict"), none, (.dict #[⟨(PyData.keyHash P (Str.ofString "__module__")), (.str (Str.ofString "__module__") 237), (.str (Str.ofString "lockflight.errors") 194)⟩, ⟨(PyData.keyHash P (Str.ofString "__firstlineno__")), (.str (Str.ofString "__firstlineno__") 241), (.int 9 240)⟩, ⟨(PyData.keyHash P (Str.ofString "__static_attributes__")), (.str (Str.ofString "__static_attributes__") 242), (.ref 54)⟩, ⟨(PyData.keyHash P (Str.ofString "__doc__")), (.str (Str.ofString "__doc__") 243), .none⟩] 2), #[]⟩
noncomputable def ob_56 (P : PySem.Params) : Obj := ⟨(.type "type"), none, (.cls ⟨(Str.ofString "NoGate"), [(.ref 31)], [(.ref 56), (.ref 31), (.type "ValueError"), (.type "Exception"), (.type "BaseException"), (.type "object")], 55, (Str.ofString "NoGate"), true, [], [], false, none, false⟩), #[(some (.ref 47)), none, (some (.str (Str.ofString "NoGate") 230)), (some (.str (Str.ofString "NoGate") 238)), (some (.builtin "ValueError.__new__")), (some (.bool true))]⟩
noncomputable def ob_67 (P : PySem.Params) : Obj := ⟨(.type "dict"), none, (.dict #[⟨(PyData.keyHash P (Str.ofString "__module__")), (.str (Str.ofString "__module__") 253), (.str (Str.ofString "lockflight.errors") 194)⟩, ⟨(PyData.keyHash P (Str.ofString "__firstlineno__")), (.str (Str.ofString "__firstlineno__") 257), (.int 11 256)⟩, ⟨(PyData.keyHash P (Str.ofString "__static_attributes__")), (.str (Str.ofString "__static_attributes__") 258), (.ref 66)⟩, ⟨(PyData.keyHash P (Str.ofString "__doc__")), (.str (Str.ofString "__doc__") 259), .none⟩] 2), #[]⟩
noncomputable def ob_68 (P : PySem.Params) : Obj := ⟨(.type "type"), none, (.cls ⟨(Str.ofString "NoFall"), [(.ref 31)], [(.ref 68), (.ref 31), (.type "ValueError"), (.type "Exception"), (.type "BaseException"), (.type "object")], 67, (Str.ofString "NoFall"), true, [], [], false, none, false⟩), #[(some (.ref 59)), none, (some (.str (Str.ofString "NoFall") 246)), (some (.str (Str.ofString "NoFall") 254)), (some (.builtin "ValueError.__new__")), (some (.bool true))]⟩
noncomputable def ob_79 (P : PySem.Params) : Obj := ⟨(.type "dict"), none, (.dict #[⟨(PyData.keyHash P (Str.ofString "__module__")), (.str (Str.ofString "__module__") 269), (.str (Str.ofString "lockflight.errors") 194)⟩, ⟨(PyData.keyHash P (Str.ofString "__firstlineno__")), (.str (Str.ofString "__firstlineno__") 273), (.int 13 272)⟩, ⟨(PyData.keyHash P (Str.ofString "__static_attributes__")), (.str (Str.ofString "__static_attributes__") 274), (.ref 78)⟩, ⟨(PyData.keyHash P (Str.ofString "__doc__")), (.str (Str.ofString "__doc__") 275), .none⟩] 2), #[]⟩
noncomputable def ob_80 (P : PySem.Params) : Obj := ⟨(.type "type"), none, (.cls ⟨(Str.ofString "NoBoat"), [(.ref 31)], [(.ref 80), (.ref 31), (.type "ValueError"), (.type "Exception"), (.type "BaseException"), (.type "object")], 79, (Str.ofString "NoBoat"), true, [], [], false, none, false⟩), #[(some (.ref 71)), none, (some (.str (Str.ofString "NoBoat") 262)), (some (.str (Str.ofString "NoBoat") 270)), (some (.builtin "ValueError.__new__")), (some (.bool true))]⟩
noncomputable def ob_91 (P : PySem.Params) : Obj := ⟨(.type "dict"), none, (.dict #[⟨(PyData.keyHash P (Str.ofString "__module__")), (.str (Str.ofString "__module__") 285), (.str (Str.ofString "lockflight.errors") 194)⟩, ⟨(PyData.keyHash P (Str.ofString "__firstlineno__")), (.str (Str.ofString "__firstlineno__") 289), (.int 15 288)⟩, ⟨(PyData.keyHash P (Str.ofString "__static_attributes__")), (.str (Str.ofString "__static_attributes__") 290), (.ref 90)⟩, ⟨(PyData.keyHash P (Str.ofString "__doc__")), (.str (Str.ofString "__doc__") 291), .none⟩] 2), #[]⟩
noncomputable def ob_92 (P : PySem.Params) : Obj := ⟨(.type "type"), none, (.cls ⟨(Str.ofString "NotFirst"), [(.ref 31)], [(.ref 92), (.ref 31), (.type "ValueError"), (.type "Exception"), (.type "BaseException"), (.type "object")], 91, (Str.ofString "NotFirst"), true, [], [], false, none, false⟩), #[(some (.ref 83)), none, (some (.str (Str.ofString "NotFirst") 278)), (some (.str (Str.ofString "NotFirst") 286)), (some (.builtin "ValueError.__new__")), (some (.bool true))]⟩
noncomputable def ob_103 (P : PySem.Params) : Obj := ⟨(.type "dict"), none, (.dict #[⟨(PyData.keyHash P (Str.ofString "__module__")), (.str (Str.ofString "__module__") 301), (.str (Str.ofString "lockflight.errors") 194)⟩, ⟨(PyData.keyHash P (Str.ofString "__firstlineno__")), (.str (Str.ofString "__firstlineno__") 305), (.int 17 304)⟩, ⟨(PyData.keyHash P (Str.ofString "__static_attributes__")), (.str (Str.ofString "__static_attributes__") 306), (.ref 102)⟩, ⟨(PyData.keyHash P (Str.ofString "__doc__")), (.str (Str.ofString "__doc__") 307), .none⟩] 2), #[]⟩
noncomputable def ob_104 (P : PySem.Params) : Obj := ⟨(.type "type"), none, (.cls ⟨(Str.ofString "Shut"), [(.ref 31)], [(.ref 104), (.ref 31), (.type "ValueError"), (.type "Exception"), (.type "BaseException"), (.type "object")], 103, (Str.ofString "Shut"), true, [], [], false, none, false⟩), #[(some (.ref 95)), none, (some (.str (Str.ofString "Shut") 294)), (some (.str (Str.ofString "Shut") 302)), (some (.builtin "ValueError.__new__")), (some (.bool true))]⟩
noncomputable def ob_115 (P : PySem.Params) : Obj := ⟨(.type "dict"), none, (.dict #[⟨(PyData.keyHash P (Str.ofString "__module__")), (.str (Str.ofString "__module__") 317), (.str (Str.ofString "lockflight.errors") 194)⟩, ⟨(PyData.keyHash P (Str.ofString "__firstlineno__")), (.str (Str.ofString "__firstlineno__") 321), (.int 19 320)⟩, ⟨(PyData.keyHash P (Str.ofString "__static_attributes__")), (.str (Str.ofString "__static_attributes__") 322), (.ref 114)⟩, ⟨(PyData.keyHash P (Str.ofString "__doc__")), (.str (Str.ofString "__doc__") 323), .none⟩] 2), #[]⟩
noncomputable def ob_116 (P : PySem.Params) : Obj := ⟨(.type "type"), none, (.cls ⟨(Str.ofString "Occupied"), [(.ref 31)], [(.ref 116), (.ref 31), (.type "ValueError"), (.type "Exception"), (.type "BaseException"), (.type "object")], 115, (Str.ofString "Occupied"), true, [], [], false, none, false⟩), #[(some (.ref 107)), none, (some (.str (Str.ofString "Occupied") 310)), (some (.str (Str.ofString "Occupied") 318)), (some (.builtin "ValueError.__new__")), (some (.bool true))]⟩
noncomputable def ob_127 (P : PySem.Params) : Obj := ⟨(.type "dict"), none, (.dict #[⟨(PyData.keyHash P (Str.ofString "__module__")), (.str (Str.ofString "__module__") 333), (.str (Str.ofString "lockflight.errors") 194)⟩, ⟨(PyData.keyHash P (Str.ofString "__firstlineno__")), (.str (Str.ofString "__firstlineno__") 337), (.int 21 336)⟩, ⟨(PyData.keyHash P (Str.ofString "__static_attributes__")), (.str (Str.ofString "__static_attributes__") 338), (.ref 126)⟩, ⟨(PyData.keyHash P (Str.ofString "__doc__")), (.str (Str.ofString "__doc__") 339), .none⟩] 2), #[]⟩
noncomputable def ob_128 (P : PySem.Params) : Obj := ⟨(.type "type"), none, (.cls ⟨(Str.ofString "BadText"), [(.ref 31)], [(.ref 128), (.ref 31), (.type "ValueError"), (.type "Exception"), (.type "BaseException"), (.type "object")], 127, (Str.ofString "BadText"), true, [], [], false, none, false⟩), #[(some (.ref 119)), none, (some (.str (Str.ofString "BadText") 326)), (some (.str (Str.ofString "BadText") 334)), (some (.builtin "ValueError.__new__")), (some (.bool true))]⟩
noncomputable def ob_143 (P : PySem.Params) : Obj := ⟨(.type "code"), none, (.fields #[(.str (Str.ofString "__init__") 358), (.str (Str.ofString "Flight.__init__") 359), (.str (Str.ofString "/claim/cut.py") 360), (.int 27 0), (.int 2 0), (.int 0 0), (.int 0 0), (.int 3 0), (.ref 138), (.bool true), (.int 181 0), (.ref 139), .none, (.ref 140), (.ref 141), (.ref 142), (.int 363 0), (.int 27 0), (.str (Str.ofString "/claim/cut.py") 364)]), #[]⟩
noncomputable def ob_144 (P : PySem.Params) : Obj := ⟨(.type "function"), none, .func fd_init, #[]⟩
noncomputable def ob_150 (P : PySem.Params) : Obj := ⟨(.type "code"), none, (.fields #[(.str (Str.ofString "levels") 366), (.str (Str.ofString "Flight.levels") 367), (.str (Str.ofString "/claim/cut.py") 368), (.int 38 0), (.int 1 0), (.int 0 0), (.int 0 0), (.int 3 0), (.ref 145), (.bool true), (.int 181 0), (.ref 146), .none, (.ref 147), (.ref 148), (.ref 149), (.int 370 0), (.int 38 0), (.str (Str.ofString "/claim/cut.py") 371)]), #[]⟩
noncomputable def ob_151 (P : PySem.Params) : Obj := ⟨(.type "function"), none, .func fd_levels, #[]⟩
noncomputable def ob_192 (P : PySem.Params) : Obj := ⟨(.type "code"), none, (.fields #[(.str (Str.ofString "side") 409), (.str (Str.ofString "Flight.side") 410), (.str (Str.ofString "/claim/cut.py") 411), (.int 56 0), (.int 2 0), (.int 0 0), (.int 0 0), (.int 3 0), (.ref 187), (.bool true), (.int 181 0), (.ref 188), .none, (.ref 189), (.ref 190), (.ref 191), (.int 414 0), (.int 56 0), (.str (Str.ofString "/claim/cut.py") 415)]), #[]⟩
noncomputable def ob_193 (P : PySem.Params) : Obj := ⟨(.type "function"), none, .func fd_side, #[]⟩
noncomputable def ob_199 (P : PySem.Params) : Obj := ⟨(.type "code"), none, (.fields #[(.str (Str.ofString "place") 417), (.str (Str.ofString "Flight.place") 418), (.str (Str.ofString "/claim/cut.py") 419), (.int 61 0), (.int 2 0), (.int 0 0), (.int 0 0), (.int 3 0), (.ref 194), (.bool true), (.int 181 0), (.ref 195), .none, (.ref 196), (.ref 197), (.ref 198), (.int 422 0), (.int 61 0), (.str (Str.ofString "/claim/cut.py") 423)]), #[]⟩
noncomputable def ob_200 (P : PySem.Params) : Obj := ⟨(.type "function"), none, .func fd_place, #[]⟩
noncomputable def ob_206 (P : PySem.Params) : Obj := ⟨(.type "code"), none, (.fields #[(.str (Str.ofString "come") 425), (.str (Str.ofString "Flight.come") 426), (.str (Str.ofString "/claim/cut.py") 427), (.int 70 0), (.int 2 0), (.int 0 0), (.int 0 0), (.int 3 0), (.ref 201), (.bool true), (.int 181 0), (.ref 202), .none, (.ref 203), (.ref 204), (.ref 205), (.int 431 0), (.int 70 0), (.str (Str.ofString "/claim/cut.py") 432)]), #[]⟩
noncomputable def ob_207 (P : PySem.Params) : Obj := ⟨(.type "function"), none, .func fd_come, #[]⟩
noncomputable def ob_213 (P : PySem.Params) : Obj := ⟨(.type "code"), none, (.fields #[(.str (Str.ofString "let") 434), (.str (Str.ofString "Flight.let") 435), (.str (Str.ofString "/claim/cut.py") 436), (.int 76 0), (.int 2 0), (.int 0 0), (.int 0 0), (.int 3 0), (.ref 208), (.bool true), (.int 181 0), (.ref 209), .none, (.ref 210), (.ref 211), (.ref 212), (.int 439 0), (.int 76 0), (.str (Str.ofString "/claim/cut.py") 440)]), #[]⟩
noncomputable def ob_214 (P : PySem.Params) : Obj := ⟨(.type "function"), none, .func fd_let, #[]⟩
noncomputable def ob_220 (P : PySem.Params) : Obj := ⟨(.type "code"), none, (.fields #[(.str (Str.ofString "sail") 442), (.str (Str.ofString "Flight.sail") 443), (.str (Str.ofString "/claim/cut.py") 444), (.int 87 0), (.int 2 0), (.int 0 0), (.int 0 0), (.int 3 0), (.ref 215), (.bool true), (.int 181 0), (.ref 216), .none, (.ref 217), (.ref 218), (.ref 219), (.int 450 0), (.int 87 0), (.str (Str.ofString "/claim/cut.py") 451)]), #[]⟩
noncomputable def ob_221 (P : PySem.Params) : Obj := ⟨(.type "function"), none, .func fd_sail, #[]⟩
noncomputable def ob_227 (P : PySem.Params) : Obj := ⟨(.type "code"), none, (.fields #[(.str (Str.ofString "summit") 453), (.str (Str.ofString "Flight.summit") 454), (.str (Str.ofString "/claim/cut.py") 455), (.int 101 0), (.int 1 0), (.int 0 0), (.int 0 0), (.int 3 0), (.ref 222), (.bool true), (.int 181 0), (.ref 223), .none, (.ref 224), (.ref 225), (.ref 226), (.int 457 0), (.int 101 0), (.str (Str.ofString "/claim/cut.py") 458)]), #[]⟩
noncomputable def ob_228 (P : PySem.Params) : Obj := ⟨(.type "function"), none, .func fd_summit, #[]⟩
noncomputable def ob_234 (P : PySem.Params) : Obj := ⟨(.type "code"), none, (.fields #[(.str (Str.ofString "is_chamber") 460), (.str (Str.ofString "Flight.is_chamber") 461), (.str (Str.ofString "/claim/cut.py") 462), (.int 104 0), (.int 2 0), (.int 0 0), (.int 0 0), (.int 3 0), (.ref 229), (.bool true), (.int 181 0), (.ref 230), .none, (.ref 231), (.ref 232), (.ref 233), (.int 465 0), (.int 104 0), (.str (Str.ofString "/claim/cut.py") 466)]), #[]⟩
noncomputable def ob_235 (P : PySem.Params) : Obj := ⟨(.type "function"), none, .func fd_is_chamber, #[]⟩
noncomputable def ob_241 (P : PySem.Params) : Obj := ⟨(.type "code"), none, (.fields #[(.str (Str.ofString "can_give") 468), (.str (Str.ofString "Flight.can_give") 469), (.str (Str.ofString "/claim/cut.py") 470), (.int 107 0), (.int 2 0), (.int 0 0), (.int 0 0), (.int 3 0), (.ref 236), (.bool true), (.int 181 0), (.ref 237), .none, (.ref 238), (.ref 239), (.ref 240), (.int 473 0), (.int 107 0), (.str (Str.ofString "/claim/cut.py") 474)]), #[]⟩
noncomputable def ob_242 (P : PySem.Params) : Obj := ⟨(.type "function"), none, .func fd_can_give, #[]⟩
noncomputable def ob_248 (P : PySem.Params) : Obj := ⟨(.type "code"), none, (.fields #[(.str (Str.ofString "can_take") 476), (.str (Str.ofString "Flight.can_take") 477), (.str (Str.ofString "/claim/cut.py") 478), (.int 110 0), (.int 2 0), (.int 0 0), (.int 0 0), (.int 3 0), (.ref 243), (.bool true), (.int 181 0), (.ref 244), .none, (.ref 245), (.ref 246), (.ref 247), (.int 481 0), (.int 110 0), (.str (Str.ofString "/claim/cut.py") 482)]), #[]⟩
noncomputable def ob_249 (P : PySem.Params) : Obj := ⟨(.type "function"), none, .func fd_can_take, #[]⟩
noncomputable def ob_255 (P : PySem.Params) : Obj := ⟨(.type "code"), none, (.fields #[(.str (Str.ofString "is_level") 484), (.str (Str.ofString "Flight.is_level") 485), (.str (Str.ofString "/claim/cut.py") 486), (.int 113 0), (.int 2 0), (.int 0 0), (.int 0 0), (.int 3 0), (.ref 250), (.bool true), (.int 181 0), (.ref 251), .none, (.ref 252), (.ref 253), (.ref 254), (.int 489 0), (.int 113 0), (.str (Str.ofString "/claim/cut.py") 490)]), #[]⟩
noncomputable def ob_256 (P : PySem.Params) : Obj := ⟨(.type "function"), none, .func fd_is_level, #[]⟩
noncomputable def ob_262 (P : PySem.Params) : Obj := ⟨(.type "code"), none, (.fields #[(.str (Str.ofString "give") 492), (.str (Str.ofString "Flight.give") 493), (.str (Str.ofString "/claim/cut.py") 494), (.int 116 0), (.int 2 0), (.int 0 0), (.int 0 0), (.int 3 0), (.ref 257), (.bool true), (.int 181 0), (.ref 258), .none, (.ref 259), (.ref 260), (.ref 261), (.int 497 0), (.int 116 0), (.str (Str.ofString "/claim/cut.py") 498)]), #[]⟩
noncomputable def ob_263 (P : PySem.Params) : Obj := ⟨(.type "function"), none, .func fd_give, #[]⟩
noncomputable def ob_269 (P : PySem.Params) : Obj := ⟨(.type "code"), none, (.fields #[(.str (Str.ofString "take") 500), (.str (Str.ofString "Flight.take") 501), (.str (Str.ofString "/claim/cut.py") 502), (.int 122 0), (.int 2 0), (.int 0 0), (.int 0 0), (.int 3 0), (.ref 264), (.bool true), (.int 181 0), (.ref 265), .none, (.ref 266), (.ref 267), (.ref 268), (.int 505 0), (.int 122 0), (.str (Str.ofString "/claim/cut.py") 506)]), #[]⟩
noncomputable def ob_270 (P : PySem.Params) : Obj := ⟨(.type "function"), none, .func fd_take, #[]⟩
noncomputable def ob_276 (P : PySem.Params) : Obj := ⟨(.type "code"), none, (.fields #[(.str (Str.ofString "leave") 508), (.str (Str.ofString "Flight.leave") 509), (.str (Str.ofString "/claim/cut.py") 510), (.int 128 0), (.int 3 0), (.int 0 0), (.int 0 0), (.int 3 0), (.ref 271), (.bool true), (.int 181 0), (.ref 272), .none, (.ref 273), (.ref 274), (.ref 275), (.int 514 0), (.int 128 0), (.str (Str.ofString "/claim/cut.py") 515)]), #[]⟩
noncomputable def ob_277 (P : PySem.Params) : Obj := ⟨(.type "function"), none, .func fd_leave, #[]⟩
noncomputable def ob_283 (P : PySem.Params) : Obj := ⟨(.type "code"), none, (.fields #[(.str (Str.ofString "enter") 517), (.str (Str.ofString "Flight.enter") 518), (.str (Str.ofString "/claim/cut.py") 519), (.int 134 0), (.int 3 0), (.int 0 0), (.int 0 0), (.int 3 0), (.ref 278), (.bool true), (.int 181 0), (.ref 279), .none, (.ref 280), (.ref 281), (.ref 282), (.int 523 0), (.int 134 0), (.str (Str.ofString "/claim/cut.py") 524)]), #[]⟩
noncomputable def ob_284 (P : PySem.Params) : Obj := ⟨(.type "function"), none, .func fd_enter, #[]⟩
noncomputable def ob_286 (P : PySem.Params) : Obj := ⟨(.type "dict"), none, (.dict #[⟨(PyData.keyHash P (Str.ofString "__module__")), (.str (Str.ofString "__module__") 353), (.str (Str.ofString "lockflight.flight") 342)⟩, ⟨(PyData.keyHash P (Str.ofString "__firstlineno__")), (.str (Str.ofString "__firstlineno__") 357), (.int 25 356)⟩, ⟨(PyData.keyHash P (Str.ofString "__init__")), (.str (Str.ofString "__init__") 365), (.ref 144)⟩, ⟨(PyData.keyHash P (Str.ofString "levels")), (.str (Str.ofString "levels") 372), (.ref 151)⟩, ⟨(PyData.keyHash P (Str.ofString "boats")), (.str (Str.ofString "boats") 379), (.ref 158)⟩, ⟨(PyData.keyHash P (Str.ofString "waiting")), (.str (Str.ofString "waiting") 387), (.ref 165)⟩, ⟨(PyData.keyHash P (Str.ofString "through")), (.str (Str.ofString "through") 394), (.ref 172)⟩, ⟨(PyData.keyHash P (Str.ofString "drawn")), (.str (Str.ofString "drawn") 401), (.ref 179)⟩, ⟨(PyData.keyHash P (Str.ofString "out")), (.str (Str.ofString "out") 408), (.ref 186)⟩, ⟨(PyData.keyHash P (Str.ofString "side")), (.str (Str.ofString "side") 416), (.ref 193)⟩, ⟨(PyData.keyHash P (Str.ofString "place")), (.str (Str.ofString "place") 424), (.ref 200)⟩, ⟨(PyData.keyHash P (Str.ofString "come")), (.str (Str.ofString "come") 433), (.ref 207)⟩, ⟨(PyData.keyHash P (Str.ofString "let")), (.str (Str.ofString "let") 441), (.ref 214)⟩, ⟨(PyData.keyHash P (Str.ofString "sail")), (.str (Str.ofString "sail") 452), (.ref 221)⟩, ⟨(PyData.keyHash P (Str.ofString "summit")), (.str (Str.ofString "summit") 459), (.ref 228)⟩, ⟨(PyData.keyHash P (Str.ofString "is_chamber")), (.str (Str.ofString "is_chamber") 467), (.ref 235)⟩, ⟨(PyData.keyHash P (Str.ofString "can_give")), (.str (Str.ofString "can_give") 475), (.ref 242)⟩, ⟨(PyData.keyHash P (Str.ofString "can_take")), (.str (Str.ofString "can_take") 483), (.ref 249)⟩, ⟨(PyData.keyHash P (Str.ofString "is_level")), (.str (Str.ofString "is_level") 491), (.ref 256)⟩, ⟨(PyData.keyHash P (Str.ofString "give")), (.str (Str.ofString "give") 499), (.ref 263)⟩, ⟨(PyData.keyHash P (Str.ofString "take")), (.str (Str.ofString "take") 507), (.ref 270)⟩, ⟨(PyData.keyHash P (Str.ofString "leave")), (.str (Str.ofString "leave") 516), (.ref 277)⟩, ⟨(PyData.keyHash P (Str.ofString "enter")), (.str (Str.ofString "enter") 525), (.ref 284)⟩, ⟨(PyData.keyHash P (Str.ofString "__static_attributes__")), (.str (Str.ofString "__static_attributes__") 533), (.ref 285)⟩, ⟨(PyData.keyHash P (Str.ofString "__dict__")), (.str (Str.ofString "__dict__") 535), (.ref 288)⟩, ⟨(PyData.keyHash P (Str.ofString "__weakref__")), (.str (Str.ofString "__weakref__") 537), (.ref 289)⟩, ⟨(PyData.keyHash P (Str.ofString "__doc__")), (.str (Str.ofString "__doc__") 538), .none⟩] 4), #[]⟩
noncomputable def ob_287 (P : PySem.Params) : Obj := ⟨(.type "type"), none, (.cls ⟨(Str.ofString "Flight"), [(.type "object")], [(.ref 287), (.type "object")], 286, (Str.ofString "Flight"), true, [], [], false, none, false⟩), #[none, none, (some (.str (Str.ofString "Flight") 346)), (some (.str (Str.ofString "Flight") 354)), (some (.builtin "object.__new__")), (some (.bool true))]⟩
noncomputable def ob_297 (P : PySem.Params) : Obj := ⟨(.type "code"), none, (.fields #[(.str (Str.ofString "cost") 543), (.str (Str.ofString "cost") 544), (.str (Str.ofString "/claim/cut.py") 545), (.int 140 0), (.int 2 0), (.int 0 0), (.int 0 0), (.int 3 0), (.ref 292), (.bool true), (.int 181 0), (.ref 293), .none, (.ref 294), (.ref 295), (.ref 296), (.int 551 0), (.int 140 0), (.str (Str.ofString "/claim/cut.py") 552)]), #[]⟩
noncomputable def ob_298 (P : PySem.Params) : Obj := ⟨(.type "function"), none, .func fd_cost, #[]⟩
noncomputable def ob_304 (P : PySem.Params) : Obj := ⟨(.type "code"), none, (.fields #[(.str (Str.ofString "boat_cost") 554), (.str (Str.ofString "boat_cost") 555), (.str (Str.ofString "/claim/cut.py") 556), (.int 147 0), (.int 2 0), (.int 0 0), (.int 0 0), (.int 3 0), (.ref 299), (.bool true), (.int 181 0), (.ref 300), .none, (.ref 301), (.ref 302), (.ref 303), (.int 559 0), (.int 147 0), (.str (Str.ofString "/claim/cut.py") 560)]), #[]⟩
noncomputable def ob_305 (P : PySem.Params) : Obj := ⟨(.type "function"), none, .func fd_boat_cost, #[]⟩
noncomputable def ob_311 (P : PySem.Params) : Obj := ⟨(.type "code"), none, (.fields #[(.str (Str.ofString "levels_behind") 562), (.str (Str.ofString "levels_behind") 563), (.str (Str.ofString "/claim/cut.py") 564), (.int 151 0), (.int 2 0), (.int 0 0), (.int 0 0), (.int 3 0), (.ref 306), (.bool true), (.int 181 0), (.ref 307), .none, (.ref 308), (.ref 309), (.ref 310), (.int 567 0), (.int 151 0), (.str (Str.ofString "/claim/cut.py") 568)]), #[]⟩
noncomputable def ob_312 (P : PySem.Params) : Obj := ⟨(.type "function"), none, .func fd_levels_behind, #[]⟩
noncomputable def ob_318 (P : PySem.Params) : Obj := ⟨(.type "code"), none, (.fields #[(.str (Str.ofString "plan") 570), (.str (Str.ofString "plan") 571), (.str (Str.ofString "/claim/cut.py") 572), (.int 153 0), (.int 2 0), (.int 0 0), (.int 0 0), (.int 3 0), (.ref 313), (.bool true), (.int 181 0), (.ref 314), .none, (.ref 315), (.ref 316), (.ref 317), (.int 578 0), (.int 153 0), (.str (Str.ofString "/claim/cut.py") 579)]), #[]⟩
noncomputable def ob_319 (P : PySem.Params) : Obj := ⟨(.type "function"), none, .func fd_plan, #[]⟩
noncomputable def ob_332 (P : PySem.Params) : Obj := ⟨(.type "code"), none, (.fields #[(.str (Str.ofString "__init__") 593), (.str (Str.ofString "Rehearsal.__init__") 594), (.str (Str.ofString "/claim/cut.py") 595), (.int 165 0), (.int 2 0), (.int 0 0), (.int 0 0), (.int 3 0), (.ref 327), (.bool true), (.int 181 0), (.ref 328), .none, (.ref 329), (.ref 330), (.ref 331), (.int 598 0), (.int 165 0), (.str (Str.ofString "/claim/cut.py") 599)]), #[]⟩
noncomputable def ob_333 (P : PySem.Params) : Obj := ⟨(.type "function"), none, .func fd_Rehearsal_init, #[]⟩
noncomputable def ob_339 (P : PySem.Params) : Obj := ⟨(.type "code"), none, (.fields #[(.str (Str.ofString "bring_up") 601), (.str (Str.ofString "Rehearsal.bring_up") 602), (.str (Str.ofString "/claim/cut.py") 603), (.int 169 0), (.int 2 0), (.int 0 0), (.int 0 0), (.int 3 0), (.ref 334), (.bool true), (.int 181 0), (.ref 335), .none, (.ref 336), (.ref 337), (.ref 338), (.int 607 0), (.int 169 0), (.str (Str.ofString "/claim/cut.py") 608)]), #[]⟩
noncomputable def ob_340 (P : PySem.Params) : Obj := ⟨(.type "function"), none, .func fd_Rehearsal_bring_up, #[]⟩
noncomputable def ob_346 (P : PySem.Params) : Obj := ⟨(.type "code"), none, (.fields #[(.str (Str.ofString "bring_down") 610), (.str (Str.ofString "Rehearsal.bring_down") 611), (.str (Str.ofString "/claim/cut.py") 612), (.int 176 0), (.int 2 0), (.int 0 0), (.int 0 0), (.int 3 0), (.ref 341), (.bool true), (.int 181 0), (.ref 342), .none, (.ref 343), (.ref 344), (.ref 345), (.int 616 0), (.int 176 0), (.str (Str.ofString "/claim/cut.py") 617)]), #[]⟩
noncomputable def ob_347 (P : PySem.Params) : Obj := ⟨(.type "function"), none, .func fd_Rehearsal_bring_down, #[]⟩
noncomputable def ob_353 (P : PySem.Params) : Obj := ⟨(.type "code"), none, (.fields #[(.str (Str.ofString "make_high") 619), (.str (Str.ofString "Rehearsal.make_high") 620), (.str (Str.ofString "/claim/cut.py") 621), (.int 183 0), (.int 2 0), (.int 0 0), (.int 0 0), (.int 3 0), (.ref 348), (.bool true), (.int 181 0), (.ref 349), .none, (.ref 350), (.ref 351), (.ref 352), (.int 624 0), (.int 183 0), (.str (Str.ofString "/claim/cut.py") 625)]), #[]⟩
noncomputable def ob_354 (P : PySem.Params) : Obj := ⟨(.type "function"), none, .func fd_Rehearsal_make_high, #[]⟩
noncomputable def ob_360 (P : PySem.Params) : Obj := ⟨(.type "code"), none, (.fields #[(.str (Str.ofString "make_low") 627), (.str (Str.ofString "Rehearsal.make_low") 628), (.str (Str.ofString "/claim/cut.py") 629), (.int 188 0), (.int 2 0), (.int 0 0), (.int 0 0), (.int 3 0), (.ref 355), (.bool true), (.int 181 0), (.ref 356), .none, (.ref 357), (.ref 358), (.ref 359), (.int 632 0), (.int 188 0), (.str (Str.ofString "/claim/cut.py") 633)]), #[]⟩
noncomputable def ob_361 (P : PySem.Params) : Obj := ⟨(.type "function"), none, .func fd_Rehearsal_make_low, #[]⟩
noncomputable def ob_367 (P : PySem.Params) : Obj := ⟨(.type "code"), none, (.fields #[(.str (Str.ofString "highest") 635), (.str (Str.ofString "Rehearsal.highest") 636), (.str (Str.ofString "/claim/cut.py") 637), (.int 193 0), (.int 1 0), (.int 0 0), (.int 0 0), (.int 3 0), (.ref 362), (.bool true), (.int 181 0), (.ref 363), .none, (.ref 364), (.ref 365), (.ref 366), (.int 639 0), (.int 193 0), (.str (Str.ofString "/claim/cut.py") 640)]), #[]⟩
noncomputable def ob_368 (P : PySem.Params) : Obj := ⟨(.type "function"), none, .func fd_Rehearsal_highest, #[]⟩
noncomputable def ob_374 (P : PySem.Params) : Obj := ⟨(.type "code"), none, (.fields #[(.str (Str.ofString "is_high") 642), (.str (Str.ofString "Rehearsal.is_high") 643), (.str (Str.ofString "/claim/cut.py") 644), (.int 196 0), (.int 2 0), (.int 0 0), (.int 0 0), (.int 3 0), (.ref 369), (.bool true), (.int 181 0), (.ref 370), .none, (.ref 371), (.ref 372), (.ref 373), (.int 647 0), (.int 196 0), (.str (Str.ofString "/claim/cut.py") 648)]), #[]⟩
noncomputable def ob_375 (P : PySem.Params) : Obj := ⟨(.type "function"), none, .func fd_Rehearsal_is_high, #[]⟩
noncomputable def ob_381 (P : PySem.Params) : Obj := ⟨(.type "code"), none, (.fields #[(.str (Str.ofString "let") 650), (.str (Str.ofString "Rehearsal.let") 651), (.str (Str.ofString "/claim/cut.py") 652), (.int 199 0), (.int 2 0), (.int 0 0), (.int 0 0), (.int 3 0), (.ref 376), (.bool true), (.int 181 0), (.ref 377), .none, (.ref 378), (.ref 379), (.ref 380), (.int 655 0), (.int 199 0), (.str (Str.ofString "/claim/cut.py") 656)]), #[]⟩
noncomputable def ob_382 (P : PySem.Params) : Obj := ⟨(.type "function"), none, .func fd_Rehearsal_let, #[]⟩
noncomputable def ob_388 (P : PySem.Params) : Obj := ⟨(.type "code"), none, (.fields #[(.str (Str.ofString "sail") 658), (.str (Str.ofString "Rehearsal.sail") 659), (.str (Str.ofString "/claim/cut.py") 660), (.int 203 0), (.int 2 0), (.int 0 0), (.int 0 0), (.int 3 0), (.ref 383), (.bool true), (.int 181 0), (.ref 384), .none, (.ref 385), (.ref 386), (.ref 387), (.int 663 0), (.int 203 0), (.str (Str.ofString "/claim/cut.py") 664)]), #[]⟩
noncomputable def ob_389 (P : PySem.Params) : Obj := ⟨(.type "function"), none, .func fd_Rehearsal_sail, #[]⟩
noncomputable def ob_391 (P : PySem.Params) : Obj := ⟨(.type "dict"), none, (.dict #[⟨(PyData.keyHash P (Str.ofString "__module__")), (.str (Str.ofString "__module__") 588), (.str (Str.ofString "lockflight.costs") 541)⟩, ⟨(PyData.keyHash P (Str.ofString "__firstlineno__")), (.str (Str.ofString "__firstlineno__") 592), (.int 163 591)⟩, ⟨(PyData.keyHash P (Str.ofString "__init__")), (.str (Str.ofString "__init__") 600), (.ref 333)⟩, ⟨(PyData.keyHash P (Str.ofString "bring_up")), (.str (Str.ofString "bring_up") 609), (.ref 340)⟩, ⟨(PyData.keyHash P (Str.ofString "bring_down")), (.str (Str.ofString "bring_down") 618), (.ref 347)⟩, ⟨(PyData.keyHash P (Str.ofString "make_high")), (.str (Str.ofString "make_high") 626), (.ref 354)⟩, ⟨(PyData.keyHash P (Str.ofString "make_low")), (.str (Str.ofString "make_low") 634), (.ref 361)⟩, ⟨(PyData.keyHash P (Str.ofString "highest")), (.str (Str.ofString "highest") 641), (.ref 368)⟩, ⟨(PyData.keyHash P (Str.ofString "is_high")), (.str (Str.ofString "is_high") 649), (.ref 375)⟩, ⟨(PyData.keyHash P (Str.ofString "let")), (.str (Str.ofString "let") 657), (.ref 382)⟩, ⟨(PyData.keyHash P (Str.ofString "sail")), (.str (Str.ofString "sail") 665), (.ref 389)⟩, ⟨(PyData.keyHash P (Str.ofString "__static_attributes__")), (.str (Str.ofString "__static_attributes__") 668), (.ref 390)⟩, ⟨(PyData.keyHash P (Str.ofString "__dict__")), (.str (Str.ofString "__dict__") 670), (.ref 393)⟩, ⟨(PyData.keyHash P (Str.ofString "__weakref__")), (.str (Str.ofString "__weakref__") 672), (.ref 394)⟩, ⟨(PyData.keyHash P (Str.ofString "__doc__")), (.str (Str.ofString "__doc__") 673), .none⟩] 4), #[]⟩
noncomputable def ob_392 (P : PySem.Params) : Obj := ⟨(.type "type"), none, (.cls ⟨(Str.ofString "Rehearsal"), [(.type "object")], [(.ref 392), (.type "object")], 391, (Str.ofString "Rehearsal"), true, [], [], false, none, false⟩), #[none, none, (some (.str (Str.ofString "Rehearsal") 581)), (some (.str (Str.ofString "Rehearsal") 589)), (some (.builtin "object.__new__")), (some (.bool true))]⟩
noncomputable def ob_402 (P : PySem.Params) : Obj := ⟨(.type "code"), none, (.fields #[(.str (Str.ofString "best") 678), (.str (Str.ofString "best") 679), (.str (Str.ofString "/claim/cut.py") 680), (.int 207 0), (.int 4 0), (.int 0 0), (.int 0 0), (.int 3 0), (.ref 397), (.bool true), (.int 181 0), (.ref 398), .none, (.ref 399), (.ref 400), (.ref 401), (.int 690 0), (.int 207 0), (.str (Str.ofString "/claim/cut.py") 691)]), #[]⟩
noncomputable def ob_403 (P : PySem.Params) : Obj := ⟨(.type "function"), none, .func fd_best, #[]⟩
noncomputable def ob_416 (P : PySem.Params) : Obj := ⟨(.type "code"), none, (.fields #[(.str (Str.ofString "__init__") 705), (.str (Str.ofString "Stand.__init__") 706), (.str (Str.ofString "/claim/cut.py") 707), (.int 220 0), (.int 5 0), (.int 0 0), (.int 0 0), (.int 3 0), (.ref 411), (.bool true), (.int 181 0), (.ref 412), .none, (.ref 413), (.ref 414), (.ref 415), (.int 713 0), (.int 220 0), (.str (Str.ofString "/claim/cut.py") 714)]), #[]⟩
noncomputable def ob_417 (P : PySem.Params) : Obj := ⟨(.type "function"), none, .func fd_Stand_init, #[]⟩
noncomputable def ob_423 (P : PySem.Params) : Obj := ⟨(.type "code"), none, (.fields #[(.str (Str.ofString "is_empty") 716), (.str (Str.ofString "Stand.is_empty") 717), (.str (Str.ofString "/claim/cut.py") 718), (.int 225 0), (.int 1 0), (.int 0 0), (.int 0 0), (.int 3 0), (.ref 418), (.bool true), (.int 181 0), (.ref 419), .none, (.ref 420), (.ref 421), (.ref 422), (.int 720 0), (.int 225 0), (.str (Str.ofString "/claim/cut.py") 721)]), #[]⟩
noncomputable def ob_424 (P : PySem.Params) : Obj := ⟨(.type "function"), none, .func fd_Stand_is_empty, #[]⟩
noncomputable def ob_430 (P : PySem.Params) : Obj := ⟨(.type "code"), none, (.fields #[(.str (Str.ofString "may_go") 723), (.str (Str.ofString "Stand.may_go") 724), (.str (Str.ofString "/claim/cut.py") 725), (.int 228 0), (.int 3 0), (.int 0 0), (.int 0 0), (.int 3 0), (.ref 425), (.bool true), (.int 181 0), (.ref 426), .none, (.ref 427), (.ref 428), (.ref 429), (.int 730 0), (.int 228 0), (.str (Str.ofString "/claim/cut.py") 731)]), #[]⟩
noncomputable def ob_431 (P : PySem.Params) : Obj := ⟨(.type "function"), none, .func fd_Stand_may_go, #[]⟩
noncomputable def ob_437 (P : PySem.Params) : Obj := ⟨(.type "code"), none, (.fields #[(.str (Str.ofString "behind") 733), (.str (Str.ofString "Stand.behind") 734), (.str (Str.ofString "/claim/cut.py") 735), (.int 234 0), (.int 2 0), (.int 0 0), (.int 0 0), (.int 3 0), (.ref 432), (.bool true), (.int 181 0), (.ref 433), .none, (.ref 434), (.ref 435), (.ref 436), (.int 740 0), (.int 234 0), (.str (Str.ofString "/claim/cut.py") 741)]), #[]⟩
noncomputable def ob_438 (P : PySem.Params) : Obj := ⟨(.type "function"), none, .func fd_Stand_behind, #[]⟩
noncomputable def ob_444 (P : PySem.Params) : Obj := ⟨(.type "code"), none, (.fields #[(.str (Str.ofString "mark") 743), (.str (Str.ofString "Stand.mark") 744), (.str (Str.ofString "/claim/cut.py") 745), (.int 240 0), (.int 1 0), (.int 0 0), (.int 0 0), (.int 3 0), (.ref 439), (.bool true), (.int 181 0), (.ref 440), .none, (.ref 441), (.ref 442), (.ref 443), (.int 747 0), (.int 240 0), (.str (Str.ofString "/claim/cut.py") 748)]), #[]⟩
noncomputable def ob_445 (P : PySem.Params) : Obj := ⟨(.type "function"), none, .func fd_Stand_mark, #[]⟩
noncomputable def ob_447 (P : PySem.Params) : Obj := ⟨(.type "dict"), none, (.dict #[⟨(PyData.keyHash P (Str.ofString "__module__")), (.str (Str.ofString "__module__") 700), (.str (Str.ofString "lockflight.patience") 676)⟩, ⟨(PyData.keyHash P (Str.ofString "__firstlineno__")), (.str (Str.ofString "__firstlineno__") 704), (.int 218 703)⟩, ⟨(PyData.keyHash P (Str.ofString "__init__")), (.str (Str.ofString "__init__") 715), (.ref 417)⟩, ⟨(PyData.keyHash P (Str.ofString "is_empty")), (.str (Str.ofString "is_empty") 722), (.ref 424)⟩, ⟨(PyData.keyHash P (Str.ofString "may_go")), (.str (Str.ofString "may_go") 732), (.ref 431)⟩, ⟨(PyData.keyHash P (Str.ofString "behind")), (.str (Str.ofString "behind") 742), (.ref 438)⟩, ⟨(PyData.keyHash P (Str.ofString "mark")), (.str (Str.ofString "mark") 749), (.ref 445)⟩, ⟨(PyData.keyHash P (Str.ofString "__static_attributes__")), (.str (Str.ofString "__static_attributes__") 753), (.ref 446)⟩, ⟨(PyData.keyHash P (Str.ofString "__dict__")), (.str (Str.ofString "__dict__") 755), (.ref 449)⟩, ⟨(PyData.keyHash P (Str.ofString "__weakref__")), (.str (Str.ofString "__weakref__") 757), (.ref 450)⟩, ⟨(PyData.keyHash P (Str.ofString "__doc__")), (.str (Str.ofString "__doc__") 758), .none⟩] 4), #[]⟩
noncomputable def ob_448 (P : PySem.Params) : Obj := ⟨(.type "type"), none, (.cls ⟨(Str.ofString "Stand"), [(.type "object")], [(.ref 448), (.type "object")], 447, (Str.ofString "Stand"), true, [], [], false, none, false⟩), #[none, none, (some (.str (Str.ofString "Stand") 693)), (some (.str (Str.ofString "Stand") 701)), (some (.builtin "object.__new__")), (some (.bool true))]⟩
noncomputable def ob_465 (P : PySem.Params) : Obj := ⟨(.type "code"), none, (.fields #[(.str (Str.ofString "__init__") 773), (.str (Str.ofString "Rests.__init__") 774), (.str (Str.ofString "/claim/cut.py") 775), (.int 244 0), (.int 2 0), (.int 0 0), (.int 0 0), (.int 3 0), (.ref 460), (.bool true), (.int 181 0), (.ref 461), .none, (.ref 462), (.ref 463), (.ref 464), (.int 778 0), (.int 244 0), (.str (Str.ofString "/claim/cut.py") 779)]), #[]⟩
noncomputable def ob_466 (P : PySem.Params) : Obj := ⟨(.type "function"), none, .func fd_Rests_init, #[]⟩
noncomputable def ob_470 (P : PySem.Params) : Obj := ⟨(.type "code"), none, (.fields #[(.str (Str.ofString "rest_of") 781), (.str (Str.ofString "Rests.rest_of") 782), (.str (Str.ofString "/claim/cut.py") 783), (.int 248 0), (.int 3 0), (.int 0 0), (.int 0 0), (.int 3 0), (.ref 467), (.bool true), (.int 181 0), (.ref 468), .none, .none, .none, (.ref 469), (.int 784 0), (.int 248 0), (.str (Str.ofString "/claim/cut.py") 785)]), #[]⟩
noncomputable def ob_471 (P : PySem.Params) : Obj := ⟨(.type "function"), none, .func fd_Rests_rest_of, #[]⟩
noncomputable def ob_477 (P : PySem.Params) : Obj := ⟨(.type "code"), none, (.fields #[(.str (Str.ofString "cost_by") 787), (.str (Str.ofString "Rests.cost_by") 788), (.str (Str.ofString "/claim/cut.py") 789), (.int 255 0), (.int 4 0), (.int 0 0), (.int 0 0), (.int 3 0), (.ref 472), (.bool true), (.int 181 0), (.ref 473), .none, (.ref 474), (.ref 475), (.ref 476), (.int 794 0), (.int 255 0), (.str (Str.ofString "/claim/cut.py") 795)]), #[]⟩
noncomputable def ob_478 (P : PySem.Params) : Obj := ⟨(.type "function"), none, .func fd_Rests_cost_by, #[]⟩
noncomputable def ob_482 (P : PySem.Params) : Obj := ⟨(.type "code"), none, (.fields #[(.str (Str.ofString "next_sides") 797), (.str (Str.ofString "Rests.next_sides") 798), (.str (Str.ofString "/claim/cut.py") 799), (.int 258 0), (.int 2 0), (.int 0 0), (.int 0 0), (.int 3 0), (.ref 479), (.bool true), (.int 181 0), (.ref 480), .none, .none, .none, (.ref 481), (.int 800 0), (.int 258 0), (.str (Str.ofString "/claim/cut.py") 801)]), #[]⟩
noncomputable def ob_483 (P : PySem.Params) : Obj := ⟨(.type "function"), none, .func fd_Rests_next_sides, #[]⟩
noncomputable def ob_489 (P : PySem.Params) : Obj := ⟨(.type "code"), none, (.fields #[(.str (Str.ofString "best_side") 803), (.str (Str.ofString "Rests.best_side") 804), (.str (Str.ofString "/claim/cut.py") 805), (.int 261 0), (.int 3 0), (.int 0 0), (.int 0 0), (.int 3 0), (.ref 484), (.bool true), (.int 181 0), (.ref 485), .none, (.ref 486), (.ref 487), (.ref 488), (.int 812 0), (.int 261 0), (.str (Str.ofString "/claim/cut.py") 813)]), #[]⟩
noncomputable def ob_490 (P : PySem.Params) : Obj := ⟨(.type "function"), none, .func fd_Rests_best_side, #[]⟩
noncomputable def ob_492 (P : PySem.Params) : Obj := ⟨(.type "dict"), none, (.dict #[⟨(PyData.keyHash P (Str.ofString "__module__")), (.str (Str.ofString "__module__") 768), (.str (Str.ofString "lockflight.patience") 676)⟩, ⟨(PyData.keyHash P (Str.ofString "__firstlineno__")), (.str (Str.ofString "__firstlineno__") 772), (.int 242 771)⟩, ⟨(PyData.keyHash P (Str.ofString "__init__")), (.str (Str.ofString "__init__") 780), (.ref 466)⟩, ⟨(PyData.keyHash P (Str.ofString "rest_of")), (.str (Str.ofString "rest_of") 786), (.ref 471)⟩, ⟨(PyData.keyHash P (Str.ofString "cost_by")), (.str (Str.ofString "cost_by") 796), (.ref 478)⟩, ⟨(PyData.keyHash P (Str.ofString "next_sides")), (.str (Str.ofString "next_sides") 802), (.ref 483)⟩, ⟨(PyData.keyHash P (Str.ofString "best_side")), (.str (Str.ofString "best_side") 814), (.ref 490)⟩, ⟨(PyData.keyHash P (Str.ofString "__static_attributes__")), (.str (Str.ofString "__static_attributes__") 817), (.ref 491)⟩, ⟨(PyData.keyHash P (Str.ofString "__dict__")), (.str (Str.ofString "__dict__") 819), (.ref 494)⟩, ⟨(PyData.keyHash P (Str.ofString "__weakref__")), (.str (Str.ofString "__weakref__") 821), (.ref 495)⟩, ⟨(PyData.keyHash P (Str.ofString "__doc__")), (.str (Str.ofString "__doc__") 822), .none⟩] 4), #[]⟩
noncomputable def ob_493 (P : PySem.Params) : Obj := ⟨(.type "type"), none, (.cls ⟨(Str.ofString "Rests"), [(.type "object")], [(.ref 493), (.type "object")], 492, (Str.ofString "Rests"), true, [], [], false, none, false⟩), #[none, none, (some (.str (Str.ofString "Rests") 761)), (some (.str (Str.ofString "Rests") 769)), (some (.builtin "object.__new__")), (some (.bool true))]⟩
noncomputable def ob_503 (P : PySem.Params) : Obj := ⟨(.type "code"), none, (.fields #[(.str (Str.ofString "_law_cell_at") 827), (.str (Str.ofString "_law_cell_at") 828), (.str (Str.ofString "/claim/cut.py") 829), (.int 264 0), (.int 2 0), (.int 0 0), (.int 0 0), (.int 3 0), (.ref 498), (.bool true), (.int 181 0), (.ref 499), .none, (.ref 500), (.ref 501), (.ref 502), (.int 832 0), (.int 264 0), (.str (Str.ofString "/claim/cut.py") 833)]), #[]⟩
noncomputable def ob_504 (P : PySem.Params) : Obj := ⟨(.type "function"), none, .func fd_l_cell_at, #[]⟩
noncomputable def ob_508 (P : PySem.Params) : Obj := ⟨(.type "code"), none, (.fields #[(.str (Str.ofString "_law_order") 835), (.str (Str.ofString "_law_order") 836), (.str (Str.ofString "/claim/cut.py") 837), (.int 268 0), (.int 3 0), (.int 0 0), (.int 0 0), (.int 3 0), (.ref 505), (.bool true), (.int 181 0), (.ref 506), .none, .none, .none, (.ref 507), (.int 838 0), (.int 268 0), (.str (Str.ofString "/claim/cut.py") 839)]), #[]⟩
noncomputable def ob_509 (P : PySem.Params) : Obj := ⟨(.type "function"), none, .func fd_l_order, #[]⟩
noncomputable def ob_515 (P : PySem.Params) : Obj := ⟨(.type "code"), none, (.fields #[(.str (Str.ofString "_law_refused") 841), (.str (Str.ofString "_law_refused") 842), (.str (Str.ofString "/claim/cut.py") 843), (.int 270 0), (.int 4 0), (.int 0 0), (.int 0 0), (.int 3 0), (.ref 510), (.bool true), (.int 181 0), (.ref 511), .none, (.ref 512), (.ref 513), (.ref 514), (.int 850 0), (.int 270 0), (.str (Str.ofString "/claim/cut.py") 851)]), #[]⟩
noncomputable def ob_516 (P : PySem.Params) : Obj := ⟨(.type "function"), none, .func fd_l_refused, #[]⟩
noncomputable def ob_520 (P : PySem.Params) : Obj := ⟨(.type "code"), none, (.fields #[(.str (Str.ofString "law") 853), (.str (Str.ofString "law") 854), (.str (Str.ofString "/claim/cut.py") 855), (.int 282 0), (.int 1 0), (.int 0 0), (.int 0 0), (.int 3 0), (.ref 517), (.bool true), (.int 181 0), (.ref 518), .none, .none, .none, (.ref 519), (.int 856 0), (.int 282 0), (.str (Str.ofString "/claim/cut.py") 857)]), #[]⟩
noncomputable def ob_521 (P : PySem.Params) : Obj := ⟨(.type "function"), none, .func fd_law, #[]⟩
noncomputable def KK0 (P : PySem.Params) : PySem.W.Frag := [(3, ob_3 P), (4, ob_4 P), (30, ob_30 P), (31, ob_31 P), (43, ob_43 P), (44, ob_44 P), (55, ob_55 P), (56, ob_56 P), (67, ob_67 P), (68, ob_68 P)]
noncomputable def KK1 (P : PySem.Params) : PySem.W.Frag := [(79, ob_79 P), (80, ob_80 P), (91, ob_91 P), (92, ob_92 P), (103, ob_103 P), (104, ob_104 P), (115, ob_115 P), (116, ob_116 P), (127, ob_127 P), (128, ob_128 P)]
noncomputable def KK2 (P : PySem.Params) : PySem.W.Frag := [(143, ob_143 P), (144, ob_144 P), (150, ob_150 P), (151, ob_151 P), (192, ob_192 P), (193, ob_193 P), (199, ob_199 P), (200, ob_200 P), (206, ob_206 P), (207, ob_207 P)]
noncomputable def KK3 (P : PySem.Params) : PySem.W.Frag := [(213, ob_213 P), (214, ob_214 P), (220, ob_220 P), (221, ob_221 P), (227, ob_227 P), (228, ob_228 P), (234, ob_234 P), (235, ob_235 P), (241, ob_241 P), (242, ob_242 P)]
noncomputable def KK4 (P : PySem.Params) : PySem.W.Frag := [(248, ob_248 P), (249, ob_249 P), (255, ob_255 P), (256, ob_256 P), (262, ob_262 P), (263, ob_263 P), (269, ob_269 P), (270, ob_270 P), (276, ob_276 P), (277, ob_277 P)]
noncomputable def KK5 (P : PySem.Params) : PySem.W.Frag := [(283, ob_283 P), (284, ob_284 P), (286, ob_286 P), (287, ob_287 P), (297, ob_297 P), (298, ob_298 P), (304, ob_304 P), (305, ob_305 P), (311, ob_311 P), (312, ob_312 P)]
noncomputable def KK6 (P : PySem.Params) : PySem.W.Frag := [(318, ob_318 P), (319, ob_319 P), (332, ob_332 P), (333, ob_333 P), (339, ob_339 P), (340, ob_340 P), (346, ob_346 P), (347, ob_347 P), (353, ob_353 P), (354, ob_354 P)]
noncomputable def KK7 (P : PySem.Params) : PySem.W.Frag := [(360, ob_360 P), (361, ob_361 P), (367, ob_367 P), (368, ob_368 P), (374, ob_374 P), (375, ob_375 P), (381, ob_381 P), (382, ob_382 P), (388, ob_388 P), (389, ob_389 P)]
noncomputable def KK8 (P : PySem.Params) : PySem.W.Frag := [(391, ob_391 P), (392, ob_392 P), (402, ob_402 P), (403, ob_403 P), (416, ob_416 P), (417, ob_417 P), (423, ob_423 P), (424, ob_424 P), (430, ob_430 P), (431, ob_431 P)]
noncomputable def KK9 (P : PySem.Params) : PySem.W.Frag := [(437, ob_437 P), (438, ob_438 P), (444, ob_444 P), (445, ob_445 P), (447, ob_447 P), (448, ob_448 P), (465, ob_465 P), (466, ob_466 P), (470, ob_470 P), (471, ob_471 P)]
noncomputable def KK10 (P : PySem.Params) : PySem.W.Frag := [(477, ob_477 P), (478, ob_478 P), (482, ob_482 P), (483, ob_483 P), (489, ob_489 P), (490, ob_490 P), (492, ob_492 P), (493, ob_493 P), (503, ob_503 P), (504, ob_504 P)]
noncomputable def KK11 (P : PySem.Params) : PySem.W.Frag := [(508, ob_508 P), (509, ob_509 P), (515, ob_515 P), (516, ob_516 P), (520, ob_520 P), (521, ob_521 P)]
noncomputable def KK (P : PySem.Params) : PySem.W.Frag := KK0 P ++ KK1 P ++ KK2 P ++ KK3 P ++ KK4 P ++ KK5 P ++ KK6 P ++ KK7 P ++ KK8 P ++ KK9 P ++ KK10 P ++ KK11 P
def asK : List Nat := [3, 4, 30, 31, 43, 44, 55, 56, 67, 68, 79, 80, 91, 92, 103, 104, 115, 116, 127, 128, 143, 144, 150, 151, 192, 193, 199, 200, 206, 207, 213, 214, 220, 221, 227, 228, 234, 235, 241, 242, 248, 249, 255, 256, 262, 263, 269, 270, 276, 277, 283, 284, 286, 287, 297, 298, 304, 305, 311, 312, 318, 319, 332, 333, 339, 340, 346, 347, 353, 354, 360, 361, 367, 368, 374, 375, 381, 382, 388, 389, 391, 392, 402, 403, 416, 417, 423, 424, 430, 431, 437, 438, 444, 445, 447, 448, 465, 466, 470, 471, 477, 478, 482, 483, 489, 490, 492, 493, 503, 504, 508, 509, 515, 516, 520, 521]
noncomputable def KKt (P : PySem.Params) : PySem.W.Frag := (485, PySem.W.tabObj #[]) :: KK P
def asKt : List Nat := 485 :: asK
def adK : Adr := ⟨287, 392, 448, 493, 31, 44, 56, 68, 80, 92, 104, 116, 128, 344, 144, fd_init, 151, fd_levels, 193, fd_side, 200, fd_place, 207, fd_come, 214, fd_let, 221, fd_sail, 228, fd_summit, 235, fd_is_chamber, 242, fd_can_give, 249, fd_can_take, 256, fd_is_level, 263, fd_give, 270, fd_take, 277, fd_leave, 284, fd_enter, 298, fd_cost, 305, fd_boat_cost, 312, fd_levels_behind, 319, fd_plan, 333, fd_Rehearsal_init, 340, fd_Rehearsal_bring_up, 347, fd_Rehearsal_bring_down, 354, fd_Rehearsal_make_high, 361, fd_Rehearsal_make_low, 368, fd_Rehearsal_highest, 375, fd_Rehearsal_is_high, 382, fd_Rehearsal_let, 389, fd_Rehearsal_sail, 403, fd_best, 417, fd_Stand_init, 424, fd_Stand_is_empty, 431, fd_Stand_may_go, 438, fd_Stand_behind, 445, fd_Stand_mark, 466, fd_Rests_init, 471, fd_Rests_rest_of, 478, fd_Rests_cost_by, 483, fd_Rests_next_sides, 490, fd_Rests_best_side, 504, fd_l_cell_at, 509, fd_l_order, 516, fd_l_refused, 521, fd_law, 485⟩
set_option maxHeartbeats 8000000 in
theorem txK {w : World} {h : Heap} {mg : Str → Option Value} (X : (KK w.params).In h) (G : h.Ns mainGlobals mg) : Txt w (KK w.params) mg adK := by
  have F_init : Fun (KK w.params) "__init__" "Flight.__init__" s_init 144 fd_init := fun_mk (st := s_init) (by kernel_rfl : (KK w.params).lookup 144 = some ⟨(.type "function"), none, .func fd_init, #[]⟩) (by kernel_rfl) (by kernel_rfl)
  have F_levels : Fun (KK w.params) "levels" "Flight.levels" s_levels 151 fd_levels := fun_mk (st := s_levels) (by kernel_rfl : (KK w.params).lookup 151 = some ⟨(.type "function"), none, .func fd_levels, #[]⟩) (by kernel_rfl) (by kernel_rfl)
  have F_side : Fun (KK w.params) "side" "Flight.side" s_side 193 fd_side := fun_mk (st := s_side) (by kernel_rfl : (KK w.params).lookup 193 = some ⟨(.type "function"), none, .func fd_side, #[]⟩) (by kernel_rfl) (by kernel_rfl)
  have F_place : Fun (KK w.params) "place" "Flight.place" s_place 200 fd_place := fun_mk (st := s_place) (by kernel_rfl : (KK w.params).lookup 200 = some ⟨(.type "function"), none, .func fd_place, #[]⟩) (by kernel_rfl) (by kernel_rfl)
  have F_come : Fun (KK w.params) "come" "Flight.come" s_come 207 fd_come := fun_mk (st := s_come) (by kernel_rfl : (KK w.params).lookup 207 = some ⟨(.type "function"), none, .func fd_come, #[]⟩) (by kernel_rfl) (by kernel_rfl)
  have F_let : Fun (KK w.params) "let" "Flight.let" s_let 214 fd_let := fun_mk (st := s_let) (by kernel_rfl : (KK w.params).lookup 214 = some ⟨(.type "function"), none, .func fd_let, #[]⟩) (by kernel_rfl) (by kernel_rfl)
  have F_sail : Fun (KK w.params) "sail" "Flight.sail" s_sail 221 fd_sail := fun_mk (st := s_sail) (by kernel_rfl : (KK w.params).lookup 221 = some ⟨(.type "function"), none, .func fd_sail, #[]⟩) (by kernel_rfl) (by kernel_rfl)
  have F_summit : Fun (KK w.params) "summit" "Flight.summit" s_summit 228 fd_summit := fun_mk (st := s_summit) (by kernel_rfl : (KK w.params).lookup 228 = some ⟨(.type "function"), none, .func fd_summit, #[]⟩) (by kernel_rfl) (by kernel_rfl)
  have F_is_chamber : Fun (KK w.params) "is_chamber" "Flight.is_chamber" s_is_chamber 235 fd_is_chamber := fun_mk (st := s_is_chamber) (by kernel_rfl : (KK w.params).lookup 235 = some ⟨(.type "function"), none, .func fd_is_chamber, #[]⟩) (by kernel_rfl) (by kernel_rfl)
  have F_can_give : Fun (KK w.params) "can_give" "Flight.can_give" s_can_give 242 fd_can_give := fun_mk (st := s_can_give) (by kernel_rfl : (KK w.params).lookup 242 = some ⟨(.type "function"), none, .func fd_can_give, #[]⟩) (by kernel_rfl) (by kernel_rfl)
  have F_can_take : Fun (KK w.params) "can_take" "Flight.can_take" s_can_take 249 fd_can_take := fun_mk (st := s_can_take) (by kernel_rfl : (KK w.params).lookup 249 = some ⟨(.type "function"), none, .func fd_can_take, #[]⟩) (by kernel_rfl) (by kernel_rfl)
  have F_is_level : Fun (KK w.params) "is_level" "Flight.is_level" s_is_level 256 fd_is_level := fun_mk (st := s_is_level) (by kernel_rfl : (KK w.params).lookup 256 = some ⟨(.type "function"), none, .func fd_is_level, #[]⟩) (by kernel_rfl) (by kernel_rfl)
  have F_give : Fun (KK w.params) "give" "Flight.give" s_give 263 fd_give := fun_mk (st := s_give) (by kernel_rfl : (KK w.params).lookup 263 = some ⟨(.type "function"), none, .func fd_give, #[]⟩) (by kernel_rfl) (by kernel_rfl)
  have F_take : Fun (KK w.params) "take" "Flight.take" s_take 270 fd_take := fun_mk (st := s_take) (by kernel_rfl : (KK w.params).lookup 270 = some ⟨(.type "function"), none, .func fd_take, #[]⟩) (by kernel_rfl) (by kernel_rfl)
  have F_leave : Fun (KK w.params) "leave" "Flight.leave" s_leave 277 fd_leave := fun_mk (st := s_leave) (by kernel_rfl : (KK w.params).lookup 277 = some ⟨(.type "function"), none, .func fd_leave, #[]⟩) (by kernel_rfl) (by kernel_rfl)
  have F_enter : Fun (KK w.params) "enter" "Flight.enter" s_enter 284 fd_enter := fun_mk (st := s_enter) (by kernel_rfl : (KK w.params).lookup 284 = some ⟨(.type "function"), none, .func fd_enter, #[]⟩) (by kernel_rfl) (by kernel_rfl)
  have F_cost : Fun (KK w.params) "cost" "cost" s_cost 298 fd_cost := fun_mk (st := s_cost) (by kernel_rfl : (KK w.params).lookup 298 = some ⟨(.type "function"), none, .func fd_cost, #[]⟩) (by kernel_rfl) (by kernel_rfl)
  have F_boat_cost : Fun (KK w.params) "boat_cost" "boat_cost" s_boat_cost 305 fd_boat_cost := fun_mk (st := s_boat_cost) (by kernel_rfl : (KK w.params).lookup 305 = some ⟨(.type "function"), none, .func fd_boat_cost, #[]⟩) (by kernel_rfl) (by kernel_rfl)
  have F_levels_behind : Fun (KK w.params) "levels_behind" "levels_behind" s_levels_behind 312 fd_levels_behind := fun_mk (st := s_levels_behind) (by kernel_rfl : (KK w.params).lookup 312 = some ⟨(.type "function"), none, .func fd_levels_behind, #[]⟩) (by kernel_rfl) (by kernel_rfl)
  have F_plan : Fun (KK w.params) "plan" "plan" s_plan 319 fd_plan := fun_mk (st := s_plan) (by kernel_rfl : (KK w.params).lookup 319 = some ⟨(.type "function"), none, .func fd_plan, #[]⟩) (by kernel_rfl) (by kernel_rfl)
  have F_Rehearsal_init : Fun (KK w.params) "__init__" "Rehearsal.__init__" s_Rehearsal_init 333 fd_Rehearsal_init := fun_mk (st := s_Rehearsal_init) (by kernel_rfl : (KK w.params).lookup 333 = some ⟨(.type "function"), none, .func fd_Rehearsal_init, #[]⟩) (by kernel_rfl) (by kernel_rfl)
  have F_Rehearsal_bring_up : Fun (KK w.params) "bring_up" "Rehearsal.bring_up" s_Rehearsal_bring_up 340 fd_Rehearsal_bring_up := fun_mk (st := s_Rehearsal_bring_up) (by kernel_rfl : (KK w.params).lookup 340 = some ⟨(.type "function"), none, .func fd_Rehearsal_bring_up, #[]⟩) (by kernel_rfl) (by kernel_rfl)
  have F_Rehearsal_bring_down : Fun (KK w.params) "bring_down" "Rehearsal.bring_down" s_Rehearsal_bring_down 347 fd_Rehearsal_bring_down := fun_mk (st := s_Rehearsal_bring_down) (by kernel_rfl : (KK w.params).lookup 347 = some ⟨(.type "function"), none, .func fd_Rehearsal_bring_down, #[]⟩) (by kernel_rfl) (by kernel_rfl)
  have F_Rehearsal_make_high : Fun (KK w.params) "make_high" "Rehearsal.make_high" s_Rehearsal_make_high 354 fd_Rehearsal_make_high := fun_mk (st := s_Rehearsal_make_high) (by kernel_rfl : (KK w.params).lookup 354 = some ⟨(.type "function"), none, .func fd_Rehearsal_make_high, #[]⟩) (by kernel_rfl) (by kernel_rfl)
  have F_Rehearsal_make_low : Fun (KK w.params) "make_low" "Rehearsal.make_low" s_Rehearsal_make_low 361 fd_Rehearsal_make_low := fun_mk (st := s_Rehearsal_make_low) (by kernel_rfl : (KK w.params).lookup 361 = some ⟨(.type "function"), none, .func fd_Rehearsal_make_low, #[]⟩) (by kernel_rfl) (by kernel_rfl)
  have F_Rehearsal_highest : Fun (KK w.params) "highest" "Rehearsal.highest" s_Rehearsal_highest 368 fd_Rehearsal_highest := fun_mk (st := s_Rehearsal_highest) (by kernel_rfl : (KK w.params).lookup 368 = some ⟨(.type "function"), none, .func fd_Rehearsal_highest, #[]⟩) (by kernel_rfl) (by kernel_rfl)
  have F_Rehearsal_is_high : Fun (KK w.params) "is_high" "Rehearsal.is_high" s_Rehearsal_is_high 375 fd_Rehearsal_is_high := fun_mk (st := s_Rehearsal_is_high) (by kernel_rfl : (KK w.params).lookup 375 = some ⟨(.type "function"), none, .func fd_Rehearsal_is_high, #[]⟩) (by kernel_rfl) (by kernel_rfl)
  have F_Rehearsal_let : Fun (KK w.params) "let" "Rehearsal.let" s_Rehearsal_let 382 fd_Rehearsal_let := fun_mk (st := s_Rehearsal_let) (by kernel_rfl : (KK w.params).lookup 382 = some ⟨(.type "function"), none, .func fd_Rehearsal_let, #[]⟩) (by kernel_rfl) (by kernel_rfl)
  have F_Rehearsal_sail : Fun (KK w.params) "sail" "Rehearsal.sail" s_Rehearsal_sail 389 fd_Rehearsal_sail := fun_mk (st := s_Rehearsal_sail) (by kernel_rfl : (KK w.params).lookup 389 = some ⟨(.type "function"), none, .func fd_Rehearsal_sail, #[]⟩) (by kernel_rfl) (by kernel_rfl)
  have F_best : Fun (KK w.params) "best" "best" s_best 403 fd_best := fun_mk (st := s_best) (by kernel_rfl : (KK w.params).lookup 403 = some ⟨(.type "function"), none, .func fd_best, #[]⟩) (by kernel_rfl) (by kernel_rfl)
  have F_Stand_init : Fun (KK w.params) "__init__" "Stand.__init__" s_Stand_init 417 fd_Stand_init := fun_mk (st := s_Stand_init) (by kernel_rfl : (KK w.params).lookup 417 = some ⟨(.type "function"), none, .func fd_Stand_init, #[]⟩) (by kernel_rfl) (by kernel_rfl)
  have F_Stand_is_empty : Fun (KK w.params) "is_empty" "Stand.is_empty" s_Stand_is_empty 424 fd_Stand_is_empty := fun_mk (st := s_Stand_is_empty) (by kernel_rfl : (KK w.params).lookup 424 = some ⟨(.type "function"), none, .func fd_Stand_is_empty, #[]⟩) (by kernel_rfl) (by kernel_rfl)
  have F_Stand_may_go : Fun (KK w.params) "may_go" "Stand.may_go" s_Stand_may_go 431 fd_Stand_may_go := fun_mk (st := s_Stand_may_go) (by kernel_rfl : (KK w.params).lookup 431 = some ⟨(.type "function"), none, .func fd_Stand_may_go, #[]⟩) (by kernel_rfl) (by kernel_rfl)
  have F_Stand_behind : Fun (KK w.params) "behind" "Stand.behind" s_Stand_behind 438 fd_Stand_behind := fun_mk (st := s_Stand_behind) (by kernel_rfl : (KK w.params).lookup 438 = some ⟨(.type "function"), none, .func fd_Stand_behind, #[]⟩) (by kernel_rfl) (by kernel_rfl)
  have F_Stand_mark : Fun (KK w.params) "mark" "Stand.mark" s_Stand_mark 445 fd_Stand_mark := fun_mk (st := s_Stand_mark) (by kernel_rfl : (KK w.params).lookup 445 = some ⟨(.type "function"), none, .func fd_Stand_mark, #[]⟩) (by kernel_rfl) (by kernel_rfl)
  have F_Rests_init : Fun (KK w.params) "__init__" "Rests.__init__" s_Rests_init 466 fd_Rests_init := fun_mk (st := s_Rests_init) (by kernel_rfl : (KK w.params).lookup 466 = some ⟨(.type "function"), none, .func fd_Rests_init, #[]⟩) (by kernel_rfl) (by kernel_rfl)
  have F_Rests_rest_of : Fun (KK w.params) "rest_of" "Rests.rest_of" s_Rests_rest_of 471 fd_Rests_rest_of := fun_mk (st := s_Rests_rest_of) (by kernel_rfl : (KK w.params).lookup 471 = some ⟨(.type "function"), none, .func fd_Rests_rest_of, #[]⟩) (by kernel_rfl) (by kernel_rfl)
  have F_Rests_cost_by : Fun (KK w.params) "cost_by" "Rests.cost_by" s_Rests_cost_by 478 fd_Rests_cost_by := fun_mk (st := s_Rests_cost_by) (by kernel_rfl : (KK w.params).lookup 478 = some ⟨(.type "function"), none, .func fd_Rests_cost_by, #[]⟩) (by kernel_rfl) (by kernel_rfl)
  have F_Rests_next_sides : Fun (KK w.params) "next_sides" "Rests.next_sides" s_Rests_next_sides 483 fd_Rests_next_sides := fun_mk (st := s_Rests_next_sides) (by kernel_rfl : (KK w.params).lookup 483 = some ⟨(.type "function"), none, .func fd_Rests_next_sides, #[]⟩) (by kernel_rfl) (by kernel_rfl)
  have F_Rests_best_side : Fun (KK w.params) "best_side" "Rests.best_side" s_Rests_best_side 490 fd_Rests_best_side := fun_mk (st := s_Rests_best_side) (by kernel_rfl : (KK w.params).lookup 490 = some ⟨(.type "function"), none, .func fd_Rests_best_side, #[]⟩) (by kernel_rfl) (by kernel_rfl)
  have F_l_cell_at : Fun (KK w.params) "_law_cell_at" "_law_cell_at" s_l_cell_at 504 fd_l_cell_at := fun_mk (st := s_l_cell_at) (by kernel_rfl : (KK w.params).lookup 504 = some ⟨(.type "function"), none, .func fd_l_cell_at, #[]⟩) (by kernel_rfl) (by kernel_rfl)
  have F_l_order : Fun (KK w.params) "_law_order" "_law_order" s_l_order 509 fd_l_order := fun_mk (st := s_l_order) (by kernel_rfl : (KK w.params).lookup 509 = some ⟨(.type "function"), none, .func fd_l_order, #[]⟩) (by kernel_rfl) (by kernel_rfl)
  have F_l_refused : Fun (KK w.params) "_law_refused" "_law_refused" s_l_refused 516 fd_l_refused := fun_mk (st := s_l_refused) (by kernel_rfl : (KK w.params).lookup 516 = some ⟨(.type "function"), none, .func fd_l_refused, #[]⟩) (by kernel_rfl) (by kernel_rfl)
  have F_law : Fun (KK w.params) "law" "law" s_law 521 fd_law := fun_mk (st := s_law) (by kernel_rfl : (KK w.params).lookup 521 = some ⟨(.type "function"), none, .func fd_law, #[]⟩) (by kernel_rfl) (by kernel_rfl)
  exact ⟨⟨by kernel_rfl, by kernel_rfl, by kernel_rfl, by kernel_rfl⟩,
    ⟨by kernel_rfl, by kernel_rfl, by kernel_rfl, by kernel_rfl⟩,
    ⟨by kernel_rfl, by kernel_rfl, by kernel_rfl, by kernel_rfl⟩,
    ⟨by kernel_rfl, by kernel_rfl, by kernel_rfl, by kernel_rfl⟩,
    ⟨by kernel_rfl, by kernel_rfl, by kernel_rfl, by kernel_rfl⟩,
    ⟨by kernel_rfl, by kernel_rfl, by kernel_rfl, by kernel_rfl⟩,
    ⟨by kernel_rfl, by kernel_rfl, by kernel_rfl, by kernel_rfl⟩,
    ⟨by kernel_rfl, by kernel_rfl, by kernel_rfl, by kernel_rfl⟩,
    PySem.W.mg_of X G (by kernel_rfl),
    PySem.W.mg_of X G (by kernel_rfl),
    PySem.W.mg_of X G (by kernel_rfl),
    PySem.W.mg_of X G (by kernel_rfl),
    PySem.W.mg_of X G (by kernel_rfl),
    PySem.W.mg_of X G (by kernel_rfl),
    PySem.W.mg_of X G (by kernel_rfl),
    PySem.W.mg_of X G (by kernel_rfl),
    PySem.W.mg_of X G (by kernel_rfl),
    PySem.W.mg_of X G (by kernel_rfl),
    PySem.W.mg_of X G (by kernel_rfl),
    PySem.W.mg_of X G (by kernel_rfl),
    PySem.W.mg_of X G (by kernel_rfl),
    by kernel_rfl,
    by kernel_rfl,
    by kernel_rfl,
    by kernel_rfl,
    by kernel_rfl,
    by kernel_rfl,
    by kernel_rfl,
    by kernel_rfl,
    by kernel_rfl,
    PySem.W.mg_of X G (by kernel_rfl),
    (by show PySem.W.findIn _ _ _ = _; kernel_rfl),
    (by show PySem.W.findIn _ _ _ = _; kernel_rfl),
    (by show PySem.W.findIn _ _ _ = _; kernel_rfl),
    (by show PySem.W.findIn _ _ _ = _; kernel_rfl),
    (by show PySem.W.findIn _ _ _ = _; kernel_rfl),
    (by show PySem.W.findIn _ _ _ = _; kernel_rfl),
    (by show PySem.W.findIn _ _ _ = _; kernel_rfl),
    (by show PySem.W.findIn _ _ _ = _; kernel_rfl),
    (by show PySem.W.findIn _ _ _ = _; kernel_rfl),
    (by show PySem.W.findIn _ _ _ = _; kernel_rfl),
    (by show PySem.W.findIn _ _ _ = _; kernel_rfl),
    (by show PySem.W.findIn _ _ _ = _; kernel_rfl),
    (by show PySem.W.findIn _ _ _ = _; kernel_rfl),
    (by show PySem.W.findIn _ _ _ = _; kernel_rfl),
    F_init,
    fb2 F_init (fun _ _ _ _ _ _ _ _ => rfl),
    F_levels,
    fb1 F_levels (fun _ _ _ _ _ _ _ => rfl),
    ⟨by kernel_rfl, by kernel_rfl, by kernel_rfl⟩,
    F_side,
    fb2 F_side (fun _ _ _ _ _ _ _ _ => rfl),
    ⟨by kernel_rfl, by kernel_rfl, by kernel_rfl⟩,
    F_place,
    fb2 F_place (fun _ _ _ _ _ _ _ _ => rfl),
    ⟨by kernel_rfl, by kernel_rfl, by kernel_rfl⟩,
    F_come,
    fb2 F_come (fun _ _ _ _ _ _ _ _ => rfl),
    ⟨by kernel_rfl, by kernel_rfl, by kernel_rfl⟩,
    F_let,
    fb2 F_let (fun _ _ _ _ _ _ _ _ => rfl),
    ⟨by kernel_rfl, by kernel_rfl, by kernel_rfl⟩,
    F_sail,
    fb2 F_sail (fun _ _ _ _ _ _ _ _ => rfl),
    ⟨by kernel_rfl, by kernel_rfl, by kernel_rfl⟩,
    F_summit,
    fb1 F_summit (fun _ _ _ _ _ _ _ => rfl),
    ⟨by kernel_rfl, by kernel_rfl, by kernel_rfl⟩,
    F_is_chamber,
    fb2 F_is_chamber (fun _ _ _ _ _ _ _ _ => rfl),
    ⟨by kernel_rfl, by kernel_rfl, by kernel_rfl⟩,
    F_can_give,
    fb2 F_can_give (fun _ _ _ _ _ _ _ _ => rfl),
    ⟨by kernel_rfl, by kernel_rfl, by kernel_rfl⟩,
    F_can_take,
    fb2 F_can_take (fun _ _ _ _ _ _ _ _ => rfl),
    ⟨by kernel_rfl, by kernel_rfl, by kernel_rfl⟩,
    F_is_level,
    fb2 F_is_level (fun _ _ _ _ _ _ _ _ => rfl),
    ⟨by kernel_rfl, by kernel_rfl, by kernel_rfl⟩,
    F_give,
    fb2 F_give (fun _ _ _ _ _ _ _ _ => rfl),
    ⟨by kernel_rfl, by kernel_rfl, by kernel_rfl⟩,
    F_take,
    fb2 F_take (fun _ _ _ _ _ _ _ _ => rfl),
    ⟨by kernel_rfl, by kernel_rfl, by kernel_rfl⟩,
    F_leave,
    fb3 F_leave (fun _ _ _ _ _ _ _ _ _ => rfl),
    ⟨by kernel_rfl, by kernel_rfl, by kernel_rfl⟩,
    F_enter,
    fb3 F_enter (fun _ _ _ _ _ _ _ _ _ => rfl),
    ⟨by kernel_rfl, by kernel_rfl, by kernel_rfl⟩,
    F_cost,
    fb2 F_cost (fun _ _ _ _ _ _ _ _ => rfl),
    PySem.W.mg_of X G (by kernel_rfl),
    F_boat_cost,
    fb2 F_boat_cost (fun _ _ _ _ _ _ _ _ => rfl),
    PySem.W.mg_of X G (by kernel_rfl),
    F_levels_behind,
    fb2 F_levels_behind (fun _ _ _ _ _ _ _ _ => rfl),
    PySem.W.mg_of X G (by kernel_rfl),
    F_plan,
    fb2 F_plan (fun _ _ _ _ _ _ _ _ => rfl),
    PySem.W.mg_of X G (by kernel_rfl),
    F_Rehearsal_init,
    fb2 F_Rehearsal_init (fun _ _ _ _ _ _ _ _ => rfl),
    F_Rehearsal_bring_up,
    fb2 F_Rehearsal_bring_up (fun _ _ _ _ _ _ _ _ => rfl),
    ⟨by kernel_rfl, by kernel_rfl, by kernel_rfl⟩,
    F_Rehearsal_bring_down,
    fb2 F_Rehearsal_bring_down (fun _ _ _ _ _ _ _ _ => rfl),
    ⟨by kernel_rfl, by kernel_rfl, by kernel_rfl⟩,
    F_Rehearsal_make_high,
    fb2 F_Rehearsal_make_high (fun _ _ _ _ _ _ _ _ => rfl),
    ⟨by kernel_rfl, by kernel_rfl, by kernel_rfl⟩,
    F_Rehearsal_make_low,
    fb2 F_Rehearsal_make_low (fun _ _ _ _ _ _ _ _ => rfl),
    ⟨by kernel_rfl, by kernel_rfl, by kernel_rfl⟩,
    F_Rehearsal_highest,
    fb1 F_Rehearsal_highest (fun _ _ _ _ _ _ _ => rfl),
    ⟨by kernel_rfl, by kernel_rfl, by kernel_rfl⟩,
    F_Rehearsal_is_high,
    fb2 F_Rehearsal_is_high (fun _ _ _ _ _ _ _ _ => rfl),
    ⟨by kernel_rfl, by kernel_rfl, by kernel_rfl⟩,
    F_Rehearsal_let,
    fb2 F_Rehearsal_let (fun _ _ _ _ _ _ _ _ => rfl),
    ⟨by kernel_rfl, by kernel_rfl, by kernel_rfl⟩,
    F_Rehearsal_sail,
    fb2 F_Rehearsal_sail (fun _ _ _ _ _ _ _ _ => rfl),
    ⟨by kernel_rfl, by kernel_rfl, by kernel_rfl⟩,
    F_best,
    fb4 F_best (fun _ _ _ _ _ _ _ _ _ _ => rfl),
    PySem.W.mg_of X G (by kernel_rfl),
    F_Stand_init,
    fb5 F_Stand_init (fun _ _ _ _ _ _ _ _ _ _ _ => rfl),
    F_Stand_is_empty,
    fb1 F_Stand_is_empty (fun _ _ _ _ _ _ _ => rfl),
    ⟨by kernel_rfl, by kernel_rfl, by kernel_rfl⟩,
    F_Stand_may_go,
    fb3 F_Stand_may_go (fun _ _ _ _ _ _ _ _ _ => rfl),
    ⟨by kernel_rfl, by kernel_rfl, by kernel_rfl⟩,
    F_Stand_behind,
    fb2 F_Stand_behind (fun _ _ _ _ _ _ _ _ => rfl),
    ⟨by kernel_rfl, by kernel_rfl, by kernel_rfl⟩,
    F_Stand_mark,
    fb1 F_Stand_mark (fun _ _ _ _ _ _ _ => rfl),
    ⟨by kernel_rfl, by kernel_rfl, by kernel_rfl⟩,
    F_Rests_init,
    fb2 F_Rests_init (fun _ _ _ _ _ _ _ _ => rfl),
    F_Rests_rest_of,
    fb3 F_Rests_rest_of (fun _ _ _ _ _ _ _ _ _ => rfl),
    ⟨by kernel_rfl, by kernel_rfl, by kernel_rfl⟩,
    F_Rests_cost_by,
    fb4 F_Rests_cost_by (fun _ _ _ _ _ _ _ _ _ _ => rfl),
    ⟨by kernel_rfl, by kernel_rfl, by kernel_rfl⟩,
    F_Rests_next_sides,
    fb2 F_Rests_next_sides (fun _ _ _ _ _ _ _ _ => rfl),
    ⟨by kernel_rfl, by kernel_rfl, by kernel_rfl⟩,
    F_Rests_best_side,
    fb3 F_Rests_best_side (fun _ _ _ _ _ _ _ _ _ => rfl),
    ⟨by kernel_rfl, by kernel_rfl, by kernel_rfl⟩,
    F_l_cell_at,
    fb2 F_l_cell_at (fun _ _ _ _ _ _ _ _ => rfl),
    PySem.W.mg_of X G (by kernel_rfl),
    F_l_order,
    fb3 F_l_order (fun _ _ _ _ _ _ _ _ _ => rfl),
    PySem.W.mg_of X G (by kernel_rfl),
    F_l_refused,
    fb4 F_l_refused (fun _ _ _ _ _ _ _ _ _ _ => rfl),
    PySem.W.mg_of X G (by kernel_rfl),
    F_law,
    fb1 F_law (fun _ _ _ _ _ _ _ => rfl),
    PySem.W.mg_of X G (by kernel_rfl),
    PySem.W.mg_none_of X G (by kernel_rfl),
    PySem.W.mg_none_of X G (by kernel_rfl),
    PySem.W.mg_none_of X G (by kernel_rfl),
    PySem.W.mg_none_of X G (by kernel_rfl),
    PySem.W.mg_none_of X G (by kernel_rfl),
    PySem.W.mg_none_of X G (by kernel_rfl),
    PySem.W.mg_none_of X G (by kernel_rfl),
    ⟨⟨489, rfl, fun h X => ⟨_, _, _, _, _, _, _, _, _, X 489 (ob_489 w.params) (by kernel_rfl), rfl, rfl, rfl, rfl, rfl, rfl, rfl, rfl, by decide⟩⟩, fun h X2 => ⟨4, ob_4 w.params, PySem.W.mg_of X G (by kernel_rfl), by decide, by decide, by decide, X2 4 _ (by kernel_rfl), rfl, rfl, rfl⟩, by decide⟩,
    ⟨by kernel_rfl, by kernel_rfl, by kernel_rfl, by kernel_rfl, by kernel_rfl, by kernel_rfl, by kernel_rfl⟩,
    by kernel_rfl,
    by kernel_rfl,
    by kernel_rfl,
    by kernel_rfl,
    by kernel_rfl,
    by kernel_rfl,
    by kernel_rfl,
    by kernel_rfl⟩
theorem all_mk {l : PySem.W.OpenLaw} {w : World} {h : Heap} {mg : Str → Option Value} {fa : Addr} (X : (KK w.params).In h) (G : h.Ns mainGlobals mg) (hfa : mg "law" = some (.ref fa)) :
    ∃ fd : FuncData, (∀ (s : Shared) (v : Value), BindsTo s fd ⟨[v], []⟩ [("script", v)]) ∧ ∀ base : Heap, (KK w.params).In base → base.Ns mainGlobals mg → FnOk l.prog w (KK w.params) mg base (CXe l.prog w) 46 fa fd ["script"] (sp_law (KK w.params) adK) := by
  have T := txK X G
  have e := hfa.symm.trans T.g_law
  cases e
  exact ⟨fd_law, fun s v => .of_eq rfl, fun base _ _ => ok_law T⟩
theorem nKt {P : PySem.Params} : (KK P).lookup 485 = none := by kernel_rfl
theorem inT {P : PySem.Params} {h : Heap} (Y : (KKt P).In h) : (KK P).In h := fun b o e => Y b o (by
  show List.lookup b ((485, PySem.W.tabObj #[]) :: KK P) = some o
  rw [List.lookup_cons]
  have hb : (b == 485) = false := by
    cases q : (b == 485) with
    | false => rfl
    | true =>
      have e' := beq_iff_eq.mp q
      subst e'
      rw [nKt] at e; cases e
  rw [hb]; exact e)
theorem walk {l : PySem.W.OpenLaw} {q : Program} {loose : List Str} {XP : (Str → Option Value) → Heap → Prop} {d : DefRec} (hn : l.most = some 63) (hdf : d.params.defaults = []) (hnm : d.name = "law") :
    PySem.W.WalkO q loose XP (fun w h => (KKt w.params).In h) l.row.toRowW d [] (fun f vs => PySem.call f vs) :=
  LX.walk_ofT (n := 63) (k := 46) (x := "script") (tb := 485) (K := KK) (CX := fun w => CXe l.prog w) (sp := fun w => sp_law (KK w.params) adK) hn (by decide) hdf ⟨rfl, by decide, by decide⟩ (fun w h Y => ⟨inT Y, Y 485 _ rfl, ⟨489, _, _, inT Y 489 (ob_489 w.params) (by kernel_rfl), rfl, rfl, rfl⟩, nKt⟩) (fun w mg fa h KX G hmg => all_mk KX G (by rw [← hnm]; exact hmg)) (fun _ _ a ns hl hT hS => ⟨a, ns, rfl, hS, hl, .inl hT, fun _ => rfl⟩) fun _ _ _ _ _ z => by
    obtain ⟨_, _, _, _, _, _, _, _, _, _, _, _, _, _, z⟩ := z; exact z
noncomputable def qK : Program := PySem.W.view PySem.Challenge.pw_lockflight_k11_bad_flights [0, 2, 3, 4, 5, 6, 7, 8, 9, 10, 12, 13, 15, 16, 17, 18, 19, 21, 22, 23, 25, 26, 27, 28]
noncomputable def xtK (s : Shared) : Bool := PySem.W.xlAt qK [] s && PySem.W.recOk [] s
noncomputable def lhsK := fun (w : World) => fun (os : OsState) => (LX.runT treeTable PySem.Challenge.pw_lockflight_k11_bad_flights w 11 (some (.ref 6)) 8738 (LX.zBoot 11 w os) (PySem.W.topStub PySem.Challenge.pw_lockflight_k11_bad_flights)).map fun z => LX.seenT PySem.Challenge.pw_lockflight_k11_bad_flights qK ([] : List Str) xtK (PySem.W.X.obsZ asKt) (PySem.W.boot_heap w.params) true z.abs
noncomputable def rhsK := fun (w : World) => fun (_ : OsState) => some (true, PySem.W.openGood qK ([] : List Str), PySem.W.X.valZ KKt 522 859 w)
theorem lhsK_e : lhsK = lhsK := rfl
theorem rhsK_e : rhsK = rhsK := rfl
end KW
name_quick lhsQ for KW.lhsK by KW.lhsK_e
name_quick rhsQ for KW.rhsK by KW.rhsK_e
namespace KW
open PySem L2 LX Lf
theorem coreK : ∀ w, PySem.W.Fast.lhsQ w = PySem.W.Fast.rhsQ w := fun w => by kernel_rfl
theorem leftK : PySem.W.LeftO PySem.Challenge.pw_lockflight_k11_bad_flights qK ([] : List Str) xtK (PySem.W.X.obsZ asKt) (PySem.W.X.valZ KKt 522 859) 8738 :=
  LX.left_of_tree (PySem.W.boot_open (by kernel_rfl) (by decide) fun s => by kernel_rfl) (fun w => by kernel_rfl) (fun w os => by kernel_rfl) fun w => (congrFun PySem.W.Fast.lhsQ_eq w).trans ((coreK w).trans (congrFun PySem.W.Fast.rhsQ_eq w).symm)
end KW

set_option Elab.async false
set_option linter.all false
open PySem PySem.W PyProof.Rows
set_option maxRecDepth 100000 in
set_option maxHeartbeats 0 in
theorem PySem.Challenge.cw_lockflight_k11_bad_flights_holds : PySem.Challenge.rw_lockflight_k11_bad_flights.Holds := by
  w_on; o_law
  refine holds_openX (r := PySem.Challenge.rw_lockflight_k11_bad_flights.row) (q := KW.qK) (loose := []) (Xt := KW.xtK) (XP := XL KW.qK []) (Yf := X.obsZ KW.asKt) (Ya := X.valZ KW.KKt 522 859) (N := 8738) KW.leftK (fun s e => xl_of s (Bool.and_eq_true_iff.mp e).1) XL.keeps (by rfl) (by rfl) (by rfl) (fun s e => recFacts_of (Bool.and_eq_true_iff.mp e).2) (by rfl) (by first | assumption | decide +kernel) (by decide +kernel) ⟨rfl, rfl, rfl, rfl, rfl, by decide +kernel⟩ ?hw ?hc
  case hw => w_witness2
  case hc => exact LX.walkX (fun _ => by kernel_rfl) (KW.walk (l := PySem.Challenge.rw_lockflight_k11_bad_flights) rfl rfl rfl)
